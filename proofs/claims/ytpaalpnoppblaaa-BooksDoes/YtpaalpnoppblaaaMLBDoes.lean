/-
  BooksDoes: books answer any script just so: each Id, number, packet, row, interval and error, the intervals, and how much room there is. No conditions.
  BooksDoes's walk. No conditions.
  Books and the reference's books, side by side: what each step answers. No conditions but the books' own.
  The reference's books: made; an interval taken; two rows of intervals the same? No conditions but the books' own.
-/
import Derived.Test.YtpaalpnoppblaaaMZ16
import Derived.Deep.QuietTactic
import Derived.Test.YtpaalpnoppblaaaMW0
import Derived.Test.YtpaalpnoppblaaaMZ18
import Derived.Deep.RegionWith
import Derived.Test.YtpaalpnoppblaaaRows
import Derived.WalkKit
import Derived.ProofKit
import Derived.OpenShut
import Derived.ChangeOld
import Derived.Below
import Derived.Lib.SmallJoins
/-! Z19 -/
namespace Go.Proofs.Ytpaalpnoppblaaa
open Go.RowKit Go.Maps
set_option linter.unusedVariables false
set_option maxRecDepth 8000
set_option maxHeartbeats 1000000 in
theorem rbnew_arg (room first t : Int) (h : room < 1 ∨ 4096 < room) (w : World) : Calls Try.prog 8 #[.int .i64 room, .int .u64 first, .int .i64 t] w fun e w' => e = .returned (.tuple #[.pointer none, .int .i64 1]) ∧ Below w.heap.size w w' := by
  go_enter Try.func8, Try.ntmps8
  go_wp2_with fail
  refine (rnew_no room first h _).mono ?_
  rintro e w1 ⟨rfl, rfl⟩
  go_wp2_with fail
  go_ret2
  exact ⟨rfl, by go_grown⟩
set_option maxHeartbeats 1000000 in
theorem rbnew_span (room first t : Int) (h0 : 1 ≤ room) (h1 : room ≤ 4096) (h : t < 1 ∨ 60000000 < t) (w : World) : Calls Try.prog 8 #[.int .i64 room, .int .u64 first, .int .i64 t] w fun e w' => e = .returned (.tuple #[.pointer none, .int .i64 10]) ∧ Below w.heap.size w w' := by
  go_enter Try.func8, Try.ntmps8
  go_wp2_with fail
  refine (rnew_yes room first h0 h1 _).mono ?_
  rintro e w1 ⟨lb, rfl, HL, hl, hw1⟩
  by_cases ht : t < 1
  · go_wp2_with fail
    go_ret2
    exact ⟨rfl, hw1⟩
  · have ht2 : 60000000 < t := by omega
    go_wp2_with fail
    go_ret2
    exact ⟨rfl, hw1⟩
set_option maxHeartbeats 1000000 in
theorem rbnew_yes (room first t : Int) (h0 : 1 ≤ room) (h1 : room ≤ 4096) (t0 : 1 ≤ t) (t1 : t ≤ 60000000) (w : World) : Calls Try.prog 8 #[.int .i64 room, .int .u64 first, .int .i64 t] w fun e w' =>
    ∃ rb S, e = .returned (.tuple #[.pointer (some ⟨rb, 0, none⟩), .int .i64 0]) ∧ Rka w' rb S ⟨⟨room, first, first, first, 0, []⟩, 0, t, 0, []⟩ ∧ (∀ k ∈ S, w.heap.size ≤ k) ∧ Below w.heap.size w w' := by
  go_enter Try.func8, Try.ntmps8
  go_wp2_with fail
  refine (rnew_yes room first h0 h1 _).mono ?_
  rintro e w1 ⟨lb, rfl, HL, hl, hw1⟩
  have ht : ¬ t < 1 := by omega
  have ht2 : ¬ 60000000 < t := by omega
  go_wp2_with fail
  go_ret2
  have hlb := HL.ob.lt
  have hsz := hw1.size
  have FA : Far [] w1 (w1.alloc (.cells #[.pointer (some ⟨lb, 0, none⟩), .slice none 0 0, .int .i64 0, .int .i64 t, .int .i64 0] 40)) := (Far.refl _ _).alloc _
  have O := Ob.fresh w1 #[.pointer (some ⟨lb, 0, none⟩), .slice none 0 0, .int .i64 0, .int .i64 t, .int .i64 0] 40
  refine ⟨w1.heap.size, [w1.heap.size, lb], rfl, ⟨lb, lb + 1, .slice none 0 0, none, 0, 0, 0, ⟨O, HL.far2 FA (by simp) (by simp), Mis.nil _ _ _, by omega, fun k e => by simp [Value.ownBlock] at e, fun h => absurd h (by omega), by simp, by simp, ?_⟩⟩, ?_, by go_grown⟩
  · intro k hk
    simp at hk ⊢
    omega
  · intro k hk
    simp at hk
    omega
attribute [local go_sem ↓] ldM_shut
set_option maxHeartbeats 2000000 in
theorem rbtake_any (rb lb B : Nat) (lv : Value) (ao : Option Addr) (g o c : Nat) (S : List Nat) (s : Bk) (hf : Fit s) (w : World) (HB : Rks w rb lb B lv ao g o c S s) :
    Calls Try.prog 30 #[.pointer (some ⟨rb, 0, none⟩)] w fun e w' => e = .returned (.tuple #[.agg #[.int .i64 (tkM s).id, .int .i64 (tkM s).fr, .int .i64 (tkM s).to, .int .i64 (tkM s).se, .int .i64 (tkM s).ac, .int .i64 (tkM s).lo, .int .i64 (tkM s).pa, .int .i64 (tkM s).hi, .int .i64 (tkM s).dr, .int .i64 (tkM s).n, .int .i64 (tkM s).st, .int .i64 (tkM s).sr, .int .i64 (tkM s).tt, .int .i64 (tkM s).tr, .int .i64 (tkM s).rr], .bool (tkB s)]) ∧ Rka w' rb S (tkL s) ∧ Far S w w' := by
  have H := Heap.nil w
  go_enter Try.func30, Try.ntmps30
  go_upto_region 1 with (first | ((first | ((with_reducible refine at_plain ?_); intro K hK) | go_guarded); first | ((with_reducible refine at_ld ?_); first | (refine wpH_ldA (ty := 63) rfl rfl H (by repeat (first | exact Found.here | apply Found.there)) (by exact row63) ?_) | (refine wpH_ldA (ty := 89) rfl rfl H (by repeat (first | exact Found.here | apply Found.there)) (by exact row89) ?_) | (refine wpH_ldA (ty := 109) rfl rfl H (by repeat (first | exact Found.here | apply Found.there)) (by exact row109) ?_) | (refine wpH_ldA (ty := 57) rfl rfl H (by repeat (first | exact Found.here | apply Found.there)) (by exact row57) ?_) | (refine wpH_ld1 (ty := 3) rfl rfl H (by repeat (first | exact Found.here | apply Found.there)) one3 (by rfl) ?_) | (refine wpH_ld1 (ty := 4) rfl rfl H (by repeat (first | exact Found.here | apply Found.there)) one4 (by rfl) ?_) | (refine wpH_ld1 (ty := 26) rfl rfl H (by repeat (first | exact Found.here | apply Found.there)) one26 (by rfl) ?_) | (refine wpH_ld1 (ty := 22) rfl rfl H (by repeat (first | exact Found.here | apply Found.there)) one22 (by rfl) ?_) | (refine wpH_ld1 (ty := 91) rfl rfl H (by repeat (first | exact Found.here | apply Found.there)) one91 (by rfl) ?_)) | ((with_reducible refine at_st ?_); first | (refine wpH_st1 (ty := 3) (v := .int _ _) rfl rfl rfl rfl rfl H one3 (by repeat (first | exact Found.here | apply Found.there)) (by repeat (first | exact SetAt.z | apply SetAt.s)) (by repeat (first | exact Turned.here | apply Turned.there)) ?_; clear H; intro wN H) | (refine wpH_st1 (ty := 4) (v := .int _ _) rfl rfl rfl rfl rfl H one4 (by repeat (first | exact Found.here | apply Found.there)) (by repeat (first | exact SetAt.z | apply SetAt.s)) (by repeat (first | exact Turned.here | apply Turned.there)) ?_; clear H; intro wN H) | (refine wpH_st1 (ty := 26) (v := .int _ _) rfl rfl rfl rfl rfl H one26 (by repeat (first | exact Found.here | apply Found.there)) (by repeat (first | exact SetAt.z | apply SetAt.s)) (by repeat (first | exact Turned.here | apply Turned.there)) ?_; clear H; intro wN H) | (refine wpH_st1 (ty := 22) (v := .int _ _) rfl rfl rfl rfl rfl H one22 (by repeat (first | exact Found.here | apply Found.there)) (by repeat (first | exact SetAt.z | apply SetAt.s)) (by repeat (first | exact Turned.here | apply Turned.there)) ?_; clear H; intro wN H) | (refine wpH_st1 (ty := 91) (v := .int _ _) rfl rfl rfl rfl rfl H one91 (by repeat (first | exact Found.here | apply Found.there)) (by repeat (first | exact SetAt.z | apply SetAt.s)) (by repeat (first | exact Turned.here | apply Turned.there)) ?_; clear H; intro wN H) | (refine wpH_stA (ty := 63) rfl rfl rfl H (by repeat (first | exact Turned.here | apply Turned.there)) (by exact row63) (by rfl) (by kernel_rfl) ?_; clear H; intro wN H) | (refine wpH_stA (ty := 89) rfl rfl rfl H (by repeat (first | exact Turned.here | apply Turned.there)) (by exact row89) (by rfl) (by kernel_rfl) ?_; clear H; intro wN H) | (refine wpH_stA (ty := 109) rfl rfl rfl H (by repeat (first | exact Turned.here | apply Turned.there)) (by exact row109) (by rfl) (by kernel_rfl) ?_; clear H; intro wN H) | (refine wpH_stA (ty := 57) rfl rfl rfl H (by repeat (first | exact Turned.here | apply Turned.there)) (by exact row57) (by rfl) (by kernel_rfl) ?_; clear H; intro wN H)) | ((with_reducible refine at_al ?_); refine wpH_al rfl (by first | exact zero63 | exact zero89 | exact zero109 | exact zero57) H ?_; clear H; intro bN wN H) | ((with_reducible refine at_bx ?_); refine wpH_bxA rfl rfl H ?_; clear H; intro bN wN H)) | fail)
  have HB1 := HB.below H.grown
  have hbb : rb < w.heap.size := HB.low _ HB.m1
  obtain ⟨c0, c1, c2, c3, c4, fz⟩ := HB1.cells
  cases hL : s.L with
  | nil =>
    have E : Hid (tkB s = false ∧ tkM s = zeroM ∧ tkL s = s) := by
      have e : tkB s = false := by rw [tkB, hL]
      exact ⟨e, by simp [tkM, e], by simp [tkL, e]⟩
    rw [hL] at c1
    simp only [List.length_nil] at c1
    clear HB1
    go_wp2_with (first | ((first | ((with_reducible refine at_plain ?_); intro K hK) | go_guarded); first | ((with_reducible refine at_ld ?_); first | (refine wpH_ldA (ty := 63) rfl rfl H (by repeat (first | exact Found.here | apply Found.there)) (by exact row63) ?_) | (refine wpH_ldA (ty := 89) rfl rfl H (by repeat (first | exact Found.here | apply Found.there)) (by exact row89) ?_) | (refine wpH_ldA (ty := 109) rfl rfl H (by repeat (first | exact Found.here | apply Found.there)) (by exact row109) ?_) | (refine wpH_ldA (ty := 57) rfl rfl H (by repeat (first | exact Found.here | apply Found.there)) (by exact row57) ?_) | (refine wpH_ld1 (ty := 3) rfl rfl H (by repeat (first | exact Found.here | apply Found.there)) one3 (by rfl) ?_) | (refine wpH_ld1 (ty := 4) rfl rfl H (by repeat (first | exact Found.here | apply Found.there)) one4 (by rfl) ?_) | (refine wpH_ld1 (ty := 26) rfl rfl H (by repeat (first | exact Found.here | apply Found.there)) one26 (by rfl) ?_) | (refine wpH_ld1 (ty := 22) rfl rfl H (by repeat (first | exact Found.here | apply Found.there)) one22 (by rfl) ?_) | (refine wpH_ld1 (ty := 91) rfl rfl H (by repeat (first | exact Found.here | apply Found.there)) one91 (by rfl) ?_)) | ((with_reducible refine at_st ?_); first | (refine wpH_st1 (ty := 3) (v := .int _ _) rfl rfl rfl rfl rfl H one3 (by repeat (first | exact Found.here | apply Found.there)) (by repeat (first | exact SetAt.z | apply SetAt.s)) (by repeat (first | exact Turned.here | apply Turned.there)) ?_; clear H; intro wN H) | (refine wpH_st1 (ty := 4) (v := .int _ _) rfl rfl rfl rfl rfl H one4 (by repeat (first | exact Found.here | apply Found.there)) (by repeat (first | exact SetAt.z | apply SetAt.s)) (by repeat (first | exact Turned.here | apply Turned.there)) ?_; clear H; intro wN H) | (refine wpH_st1 (ty := 26) (v := .int _ _) rfl rfl rfl rfl rfl H one26 (by repeat (first | exact Found.here | apply Found.there)) (by repeat (first | exact SetAt.z | apply SetAt.s)) (by repeat (first | exact Turned.here | apply Turned.there)) ?_; clear H; intro wN H) | (refine wpH_st1 (ty := 22) (v := .int _ _) rfl rfl rfl rfl rfl H one22 (by repeat (first | exact Found.here | apply Found.there)) (by repeat (first | exact SetAt.z | apply SetAt.s)) (by repeat (first | exact Turned.here | apply Turned.there)) ?_; clear H; intro wN H) | (refine wpH_st1 (ty := 91) (v := .int _ _) rfl rfl rfl rfl rfl H one91 (by repeat (first | exact Found.here | apply Found.there)) (by repeat (first | exact SetAt.z | apply SetAt.s)) (by repeat (first | exact Turned.here | apply Turned.there)) ?_; clear H; intro wN H) | (refine wpH_stA (ty := 63) rfl rfl rfl H (by repeat (first | exact Turned.here | apply Turned.there)) (by exact row63) (by rfl) (by kernel_rfl) ?_; clear H; intro wN H) | (refine wpH_stA (ty := 89) rfl rfl rfl H (by repeat (first | exact Turned.here | apply Turned.there)) (by exact row89) (by rfl) (by kernel_rfl) ?_; clear H; intro wN H) | (refine wpH_stA (ty := 109) rfl rfl rfl H (by repeat (first | exact Turned.here | apply Turned.there)) (by exact row109) (by rfl) (by kernel_rfl) ?_; clear H; intro wN H) | (refine wpH_stA (ty := 57) rfl rfl rfl H (by repeat (first | exact Turned.here | apply Turned.there)) (by exact row57) (by rfl) (by kernel_rfl) ?_; clear H; intro wN H)) | ((with_reducible refine at_al ?_); refine wpH_al rfl (by first | exact zero63 | exact zero89 | exact zero109 | exact zero57) H ?_; clear H; intro bN wN H) | ((with_reducible refine at_bx ?_); refine wpH_bxA rfl rfl H ?_; clear H; intro bN wN H)) | fail)
    refine bodyPost_ret (results_H2 rfl H (by repeat (first | exact Found.here | apply Found.there)) (by first | exact row63 | exact row89 | exact row109 | exact row57) rfl rfl) rfl ⟨?_, ?_, (Far.of_below H.grown).mono (by simp)⟩
    · rw [E.out.1, E.out.2.1]; rfl
    · rw [E.out.2.2]; exact ⟨_, _, _, _, _, _, _, HB.below H.grown⟩
  | cons m L =>
    have hl0 : 0 < s.L.length := by rw [hL]; simp
    obtain ⟨rfl, hg⟩ := HB.row.value (j := 0) hl0
    have hlen : s.L.length = L.length + 1 := by rw [hL]; rfl
    have hM : ∀ w1, Below w.heap.size w w1 → (ldM (.pointer (some ⟨g, o, none⟩))).run Try.prog w1 = .ok (.agg #[.int .i64 m.id, .int .i64 m.fr, .int .i64 m.to, .int .i64 m.se, .int .i64 m.ac, .int .i64 m.lo, .int .i64 m.pa, .int .i64 m.hi, .int .i64 m.dr, .int .i64 m.n, .int .i64 m.st, .int .i64 m.sr, .int .i64 m.tt, .int .i64 m.tr, .int .i64 m.rr]) w1 := fun w1 hb => by
      have := (HB.below hb).row.els 0 hl0; simp only [hL, List.getElem_cons_zero, Nat.zero_mul, Nat.add_zero] at this; exact ldM_run this
    have T := fun w => refDone_any m w
    have hM1 := hM _ H.grown
    rw [hlen] at c1
    have hne : ¬ ((L.length : Int) + 1 = 0) := by omega
    clear HB1
    go_wp2_with (first | ((first | ((with_reducible refine at_plain ?_); intro K hK) | go_guarded); first | ((with_reducible refine at_ld ?_); first | (refine wpH_ldA (ty := 63) rfl rfl H (by repeat (first | exact Found.here | apply Found.there)) (by exact row63) ?_) | (refine wpH_ldA (ty := 89) rfl rfl H (by repeat (first | exact Found.here | apply Found.there)) (by exact row89) ?_) | (refine wpH_ldA (ty := 109) rfl rfl H (by repeat (first | exact Found.here | apply Found.there)) (by exact row109) ?_) | (refine wpH_ldA (ty := 57) rfl rfl H (by repeat (first | exact Found.here | apply Found.there)) (by exact row57) ?_) | (refine wpH_ld1 (ty := 3) rfl rfl H (by repeat (first | exact Found.here | apply Found.there)) one3 (by rfl) ?_) | (refine wpH_ld1 (ty := 4) rfl rfl H (by repeat (first | exact Found.here | apply Found.there)) one4 (by rfl) ?_) | (refine wpH_ld1 (ty := 26) rfl rfl H (by repeat (first | exact Found.here | apply Found.there)) one26 (by rfl) ?_) | (refine wpH_ld1 (ty := 22) rfl rfl H (by repeat (first | exact Found.here | apply Found.there)) one22 (by rfl) ?_) | (refine wpH_ld1 (ty := 91) rfl rfl H (by repeat (first | exact Found.here | apply Found.there)) one91 (by rfl) ?_)) | ((with_reducible refine at_st ?_); first | (refine wpH_st1 (ty := 3) (v := .int _ _) rfl rfl rfl rfl rfl H one3 (by repeat (first | exact Found.here | apply Found.there)) (by repeat (first | exact SetAt.z | apply SetAt.s)) (by repeat (first | exact Turned.here | apply Turned.there)) ?_; clear H; intro wN H) | (refine wpH_st1 (ty := 4) (v := .int _ _) rfl rfl rfl rfl rfl H one4 (by repeat (first | exact Found.here | apply Found.there)) (by repeat (first | exact SetAt.z | apply SetAt.s)) (by repeat (first | exact Turned.here | apply Turned.there)) ?_; clear H; intro wN H) | (refine wpH_st1 (ty := 26) (v := .int _ _) rfl rfl rfl rfl rfl H one26 (by repeat (first | exact Found.here | apply Found.there)) (by repeat (first | exact SetAt.z | apply SetAt.s)) (by repeat (first | exact Turned.here | apply Turned.there)) ?_; clear H; intro wN H) | (refine wpH_st1 (ty := 22) (v := .int _ _) rfl rfl rfl rfl rfl H one22 (by repeat (first | exact Found.here | apply Found.there)) (by repeat (first | exact SetAt.z | apply SetAt.s)) (by repeat (first | exact Turned.here | apply Turned.there)) ?_; clear H; intro wN H) | (refine wpH_st1 (ty := 91) (v := .int _ _) rfl rfl rfl rfl rfl H one91 (by repeat (first | exact Found.here | apply Found.there)) (by repeat (first | exact SetAt.z | apply SetAt.s)) (by repeat (first | exact Turned.here | apply Turned.there)) ?_; clear H; intro wN H) | (refine wpH_stA (ty := 63) rfl rfl rfl H (by repeat (first | exact Turned.here | apply Turned.there)) (by exact row63) (by rfl) (by kernel_rfl) ?_; clear H; intro wN H) | (refine wpH_stA (ty := 89) rfl rfl rfl H (by repeat (first | exact Turned.here | apply Turned.there)) (by exact row89) (by rfl) (by kernel_rfl) ?_; clear H; intro wN H) | (refine wpH_stA (ty := 109) rfl rfl rfl H (by repeat (first | exact Turned.here | apply Turned.there)) (by exact row109) (by rfl) (by kernel_rfl) ?_; clear H; intro wN H) | (refine wpH_stA (ty := 57) rfl rfl rfl H (by repeat (first | exact Turned.here | apply Turned.there)) (by exact row57) (by rfl) (by kernel_rfl) ?_; clear H; intro wN H)) | ((with_reducible refine at_al ?_); refine wpH_al rfl (by first | exact zero63 | exact zero89 | exact zero109 | exact zero57) H ?_; clear H; intro bN wN H) | ((with_reducible refine at_bx ?_); refine wpH_bxA rfl rfl H ?_; clear H; intro bN wN H)) | fail)
    refine (T _).mono ?_
    rintro e wM ⟨rfl, hwM⟩
    replace H := H.call hwM
    clear hwM hM1 c0 c1 c2 c3 c4 fz T
    have HB1 := HB.below H.grown
    have hM1 := hM _ H.grown
    obtain ⟨c0, c1, c2, c3, c4, fz⟩ := HB1.cells
    rw [hlen] at c1
    cases hd : doneB m
    · have E : Hid (tkB s = false ∧ tkM s = zeroM ∧ tkL s = s) := by
        have e : tkB s = false := by rw [tkB, hL]; exact hd
        exact ⟨e, by simp [tkM, e], by simp [tkL, e]⟩
      clear HB1
      go_wp2_with (first | ((first | ((with_reducible refine at_plain ?_); intro K hK) | go_guarded); first | ((with_reducible refine at_ld ?_); first | (refine wpH_ldA (ty := 63) rfl rfl H (by repeat (first | exact Found.here | apply Found.there)) (by exact row63) ?_) | (refine wpH_ldA (ty := 89) rfl rfl H (by repeat (first | exact Found.here | apply Found.there)) (by exact row89) ?_) | (refine wpH_ldA (ty := 109) rfl rfl H (by repeat (first | exact Found.here | apply Found.there)) (by exact row109) ?_) | (refine wpH_ldA (ty := 57) rfl rfl H (by repeat (first | exact Found.here | apply Found.there)) (by exact row57) ?_) | (refine wpH_ld1 (ty := 3) rfl rfl H (by repeat (first | exact Found.here | apply Found.there)) one3 (by rfl) ?_) | (refine wpH_ld1 (ty := 4) rfl rfl H (by repeat (first | exact Found.here | apply Found.there)) one4 (by rfl) ?_) | (refine wpH_ld1 (ty := 26) rfl rfl H (by repeat (first | exact Found.here | apply Found.there)) one26 (by rfl) ?_) | (refine wpH_ld1 (ty := 22) rfl rfl H (by repeat (first | exact Found.here | apply Found.there)) one22 (by rfl) ?_) | (refine wpH_ld1 (ty := 91) rfl rfl H (by repeat (first | exact Found.here | apply Found.there)) one91 (by rfl) ?_)) | ((with_reducible refine at_st ?_); first | (refine wpH_st1 (ty := 3) (v := .int _ _) rfl rfl rfl rfl rfl H one3 (by repeat (first | exact Found.here | apply Found.there)) (by repeat (first | exact SetAt.z | apply SetAt.s)) (by repeat (first | exact Turned.here | apply Turned.there)) ?_; clear H; intro wN H) | (refine wpH_st1 (ty := 4) (v := .int _ _) rfl rfl rfl rfl rfl H one4 (by repeat (first | exact Found.here | apply Found.there)) (by repeat (first | exact SetAt.z | apply SetAt.s)) (by repeat (first | exact Turned.here | apply Turned.there)) ?_; clear H; intro wN H) | (refine wpH_st1 (ty := 26) (v := .int _ _) rfl rfl rfl rfl rfl H one26 (by repeat (first | exact Found.here | apply Found.there)) (by repeat (first | exact SetAt.z | apply SetAt.s)) (by repeat (first | exact Turned.here | apply Turned.there)) ?_; clear H; intro wN H) | (refine wpH_st1 (ty := 22) (v := .int _ _) rfl rfl rfl rfl rfl H one22 (by repeat (first | exact Found.here | apply Found.there)) (by repeat (first | exact SetAt.z | apply SetAt.s)) (by repeat (first | exact Turned.here | apply Turned.there)) ?_; clear H; intro wN H) | (refine wpH_st1 (ty := 91) (v := .int _ _) rfl rfl rfl rfl rfl H one91 (by repeat (first | exact Found.here | apply Found.there)) (by repeat (first | exact SetAt.z | apply SetAt.s)) (by repeat (first | exact Turned.here | apply Turned.there)) ?_; clear H; intro wN H) | (refine wpH_stA (ty := 63) rfl rfl rfl H (by repeat (first | exact Turned.here | apply Turned.there)) (by exact row63) (by rfl) (by kernel_rfl) ?_; clear H; intro wN H) | (refine wpH_stA (ty := 89) rfl rfl rfl H (by repeat (first | exact Turned.here | apply Turned.there)) (by exact row89) (by rfl) (by kernel_rfl) ?_; clear H; intro wN H) | (refine wpH_stA (ty := 109) rfl rfl rfl H (by repeat (first | exact Turned.here | apply Turned.there)) (by exact row109) (by rfl) (by kernel_rfl) ?_; clear H; intro wN H) | (refine wpH_stA (ty := 57) rfl rfl rfl H (by repeat (first | exact Turned.here | apply Turned.there)) (by exact row57) (by rfl) (by kernel_rfl) ?_; clear H; intro wN H)) | ((with_reducible refine at_al ?_); refine wpH_al rfl (by first | exact zero63 | exact zero89 | exact zero109 | exact zero57) H ?_; clear H; intro bN wN H) | ((with_reducible refine at_bx ?_); refine wpH_bxA rfl rfl H ?_; clear H; intro bN wN H)) | fail)
      refine bodyPost_ret (results_H2 rfl H (by repeat (first | exact Found.here | apply Found.there)) (by first | exact row63 | exact row89 | exact row109 | exact row57) rfl rfl) rfl ⟨?_, ?_, (Far.of_below H.grown).mono (by simp)⟩
      · rw [E.out.1, E.out.2.1]; rfl
      · rw [E.out.2.2]; exact ⟨_, _, _, _, _, _, _, HB.below H.grown⟩
    · have E : Hid (tkB s = true ∧ tkM s = m ∧ tkL s = { s with L := L }) := by
        have e : tkB s = true := by rw [tkB, hL]; exact hd
        exact ⟨e, by simp [tkM, e, hL], by simp [tkL, e, hL]⟩
      have hfit := tk_fit hf
      rw [E.out.2.2] at hfit
      have hL1 : 0 < L.length := hfit.ne (by have := hfit.b0; have := hf.b0; rw [hlen] at this; show 0 < s.begun; omega)
      have hcap := HB.row.cap
      rw [hlen] at hcap
      have hc1 : ¬ c = 1 := by omega
      clear HB1 hd hfit
      go_upto_region 4 with (first | ((first | ((with_reducible refine at_plain ?_); intro K hK) | go_guarded); first | ((with_reducible refine at_ld ?_); first | (refine wpH_ldA (ty := 63) rfl rfl H (by repeat (first | exact Found.here | apply Found.there)) (by exact row63) ?_) | (refine wpH_ldA (ty := 89) rfl rfl H (by repeat (first | exact Found.here | apply Found.there)) (by exact row89) ?_) | (refine wpH_ldA (ty := 109) rfl rfl H (by repeat (first | exact Found.here | apply Found.there)) (by exact row109) ?_) | (refine wpH_ldA (ty := 57) rfl rfl H (by repeat (first | exact Found.here | apply Found.there)) (by exact row57) ?_) | (refine wpH_ld1 (ty := 3) rfl rfl H (by repeat (first | exact Found.here | apply Found.there)) one3 (by rfl) ?_) | (refine wpH_ld1 (ty := 4) rfl rfl H (by repeat (first | exact Found.here | apply Found.there)) one4 (by rfl) ?_) | (refine wpH_ld1 (ty := 26) rfl rfl H (by repeat (first | exact Found.here | apply Found.there)) one26 (by rfl) ?_) | (refine wpH_ld1 (ty := 22) rfl rfl H (by repeat (first | exact Found.here | apply Found.there)) one22 (by rfl) ?_) | (refine wpH_ld1 (ty := 91) rfl rfl H (by repeat (first | exact Found.here | apply Found.there)) one91 (by rfl) ?_)) | ((with_reducible refine at_st ?_); first | (refine wpH_st1 (ty := 3) (v := .int _ _) rfl rfl rfl rfl rfl H one3 (by repeat (first | exact Found.here | apply Found.there)) (by repeat (first | exact SetAt.z | apply SetAt.s)) (by repeat (first | exact Turned.here | apply Turned.there)) ?_; clear H; intro wN H) | (refine wpH_st1 (ty := 4) (v := .int _ _) rfl rfl rfl rfl rfl H one4 (by repeat (first | exact Found.here | apply Found.there)) (by repeat (first | exact SetAt.z | apply SetAt.s)) (by repeat (first | exact Turned.here | apply Turned.there)) ?_; clear H; intro wN H) | (refine wpH_st1 (ty := 26) (v := .int _ _) rfl rfl rfl rfl rfl H one26 (by repeat (first | exact Found.here | apply Found.there)) (by repeat (first | exact SetAt.z | apply SetAt.s)) (by repeat (first | exact Turned.here | apply Turned.there)) ?_; clear H; intro wN H) | (refine wpH_st1 (ty := 22) (v := .int _ _) rfl rfl rfl rfl rfl H one22 (by repeat (first | exact Found.here | apply Found.there)) (by repeat (first | exact SetAt.z | apply SetAt.s)) (by repeat (first | exact Turned.here | apply Turned.there)) ?_; clear H; intro wN H) | (refine wpH_st1 (ty := 91) (v := .int _ _) rfl rfl rfl rfl rfl H one91 (by repeat (first | exact Found.here | apply Found.there)) (by repeat (first | exact SetAt.z | apply SetAt.s)) (by repeat (first | exact Turned.here | apply Turned.there)) ?_; clear H; intro wN H) | (refine wpH_stA (ty := 63) rfl rfl rfl H (by repeat (first | exact Turned.here | apply Turned.there)) (by exact row63) (by rfl) (by kernel_rfl) ?_; clear H; intro wN H) | (refine wpH_stA (ty := 89) rfl rfl rfl H (by repeat (first | exact Turned.here | apply Turned.there)) (by exact row89) (by rfl) (by kernel_rfl) ?_; clear H; intro wN H) | (refine wpH_stA (ty := 109) rfl rfl rfl H (by repeat (first | exact Turned.here | apply Turned.there)) (by exact row109) (by rfl) (by kernel_rfl) ?_; clear H; intro wN H) | (refine wpH_stA (ty := 57) rfl rfl rfl H (by repeat (first | exact Turned.here | apply Turned.there)) (by exact row57) (by rfl) (by kernel_rfl) ?_; clear H; intro wN H)) | ((with_reducible refine at_al ?_); refine wpH_al rfl (by first | exact zero63 | exact zero89 | exact zero109 | exact zero57) H ?_; clear H; intro bN wN H) | ((with_reducible refine at_bx ?_); refine wpH_bxA rfl rfl H ?_; clear H; intro bN wN H)) | fail)
      clear hM1 c0 c1 c2 c3 c4 fz
      have HB1 := HB.below H.grown
      obtain ⟨c0, c1, c2, c3, c4, fz⟩ := HB1.cells
      rw [hlen] at c1
      clear HB1
      go_upto_region 5 with fail
      have HT : Rks (w.setCell ⟨rb, 1, none⟩ (.slice (some ⟨g, o + 15, none⟩) L.length (c - 1))) rb lb B lv (some ⟨g, o + 15, none⟩) g (o + 15) (c - 1) S { s with L := L } := by
        have F : Far [rb] w (w.setCell ⟨rb, 1, none⟩ (.slice (some ⟨g, o + 15, none⟩) L.length (c - 1))) := (Far.refl _ _).setCell (.inr (by simp)) _ _
        have T' := Turn.cell HB.ob (o := 1) (v := .slice (some ⟨g, o + 15, none⟩) L.length (c - 1)) (us := rcells lb (some ⟨g, o + 15, none⟩) (c - 1) { s with L := L }) (by unfold rcells; repeat (first | exact SetAt.z | apply SetAt.s))
        have hr := HB.row
        rw [hL] at hr
        have R := hr.tail (some ⟨g, o + 15, none⟩) (fun _ => rfl)
        simp only [List.length_cons, Nat.add_sub_cancel] at R
        exact ⟨T'.here, HB.led.far2 F (fun k e => by simp; exact (HB.nv k e).1) (by simp; exact HB.n1.symm), R.far F (fun hc => by simp; exact (HB.ng (by omega)).1), HB.n1, HB.nv, fun hc => HB.ng (by omega), HB.m1, HB.m2, fun k hk => by rw [World.size_setCell]; exact HB.low k hk⟩
      replace H := H.oldCell hbb 1 (.slice (some ⟨g, o + 15, none⟩) L.length (c - 1))
      have FT : Far S w (w.setCell ⟨rb, 1, none⟩ (.slice (some ⟨g, o + 15, none⟩) L.length (c - 1))) := (Far.refl _ _).setCell (.inr HB.m1) _ _
      clear HB hM c0 c1 c2 c3 c4 fz
      go_wp2_with (first | ((first | ((with_reducible refine at_plain ?_); intro K hK) | go_guarded); first | ((with_reducible refine at_ld ?_); first | (refine wpH_ldA (ty := 63) rfl rfl H (by repeat (first | exact Found.here | apply Found.there)) (by exact row63) ?_) | (refine wpH_ldA (ty := 89) rfl rfl H (by repeat (first | exact Found.here | apply Found.there)) (by exact row89) ?_) | (refine wpH_ldA (ty := 109) rfl rfl H (by repeat (first | exact Found.here | apply Found.there)) (by exact row109) ?_) | (refine wpH_ldA (ty := 57) rfl rfl H (by repeat (first | exact Found.here | apply Found.there)) (by exact row57) ?_) | (refine wpH_ld1 (ty := 3) rfl rfl H (by repeat (first | exact Found.here | apply Found.there)) one3 (by rfl) ?_) | (refine wpH_ld1 (ty := 4) rfl rfl H (by repeat (first | exact Found.here | apply Found.there)) one4 (by rfl) ?_) | (refine wpH_ld1 (ty := 26) rfl rfl H (by repeat (first | exact Found.here | apply Found.there)) one26 (by rfl) ?_) | (refine wpH_ld1 (ty := 22) rfl rfl H (by repeat (first | exact Found.here | apply Found.there)) one22 (by rfl) ?_) | (refine wpH_ld1 (ty := 91) rfl rfl H (by repeat (first | exact Found.here | apply Found.there)) one91 (by rfl) ?_)) | ((with_reducible refine at_st ?_); first | (refine wpH_st1 (ty := 3) (v := .int _ _) rfl rfl rfl rfl rfl H one3 (by repeat (first | exact Found.here | apply Found.there)) (by repeat (first | exact SetAt.z | apply SetAt.s)) (by repeat (first | exact Turned.here | apply Turned.there)) ?_; clear H; intro wN H) | (refine wpH_st1 (ty := 4) (v := .int _ _) rfl rfl rfl rfl rfl H one4 (by repeat (first | exact Found.here | apply Found.there)) (by repeat (first | exact SetAt.z | apply SetAt.s)) (by repeat (first | exact Turned.here | apply Turned.there)) ?_; clear H; intro wN H) | (refine wpH_st1 (ty := 26) (v := .int _ _) rfl rfl rfl rfl rfl H one26 (by repeat (first | exact Found.here | apply Found.there)) (by repeat (first | exact SetAt.z | apply SetAt.s)) (by repeat (first | exact Turned.here | apply Turned.there)) ?_; clear H; intro wN H) | (refine wpH_st1 (ty := 22) (v := .int _ _) rfl rfl rfl rfl rfl H one22 (by repeat (first | exact Found.here | apply Found.there)) (by repeat (first | exact SetAt.z | apply SetAt.s)) (by repeat (first | exact Turned.here | apply Turned.there)) ?_; clear H; intro wN H) | (refine wpH_st1 (ty := 91) (v := .int _ _) rfl rfl rfl rfl rfl H one91 (by repeat (first | exact Found.here | apply Found.there)) (by repeat (first | exact SetAt.z | apply SetAt.s)) (by repeat (first | exact Turned.here | apply Turned.there)) ?_; clear H; intro wN H) | (refine wpH_stA (ty := 63) rfl rfl rfl H (by repeat (first | exact Turned.here | apply Turned.there)) (by exact row63) (by rfl) (by kernel_rfl) ?_; clear H; intro wN H) | (refine wpH_stA (ty := 89) rfl rfl rfl H (by repeat (first | exact Turned.here | apply Turned.there)) (by exact row89) (by rfl) (by kernel_rfl) ?_; clear H; intro wN H) | (refine wpH_stA (ty := 109) rfl rfl rfl H (by repeat (first | exact Turned.here | apply Turned.there)) (by exact row109) (by rfl) (by kernel_rfl) ?_; clear H; intro wN H) | (refine wpH_stA (ty := 57) rfl rfl rfl H (by repeat (first | exact Turned.here | apply Turned.there)) (by exact row57) (by rfl) (by kernel_rfl) ?_; clear H; intro wN H)) | ((with_reducible refine at_al ?_); refine wpH_al rfl (by first | exact zero63 | exact zero89 | exact zero109 | exact zero57) H ?_; clear H; intro bN wN H) | ((with_reducible refine at_bx ?_); refine wpH_bxA rfl rfl H ?_; clear H; intro bN wN H)) | fail)
      refine bodyPost_ret (results_H2 rfl H (by repeat (first | exact Found.here | apply Found.there)) (by first | exact row63 | exact row89 | exact row109 | exact row57) rfl rfl) rfl ⟨?_, ?_, FT.below H.grown⟩
      · rw [E.out.1, E.out.2.1]; rfl
      · rw [E.out.2.2]; exact ⟨_, _, _, _, _, _, _, HT.below H.grown⟩
set_option maxHeartbeats 1000000 in
theorem msame_any (ao ao' : Option Addr) (g g' o o' n c c' : Nat) (L : List Mi) (w : World) (hA : Mis w ao g o n c L) (hB : Mis w ao' g' o' n c' L) :
    Calls Try.prog 10 #[.slice ao n c, .slice ao' n c'] w fun e w' => e = .returned (.bool true) ∧ Below w.heap.size w w' := by
  have hcap := hA.cap; have hmax := hA.max
  have hmx : maxLen = 9223372036854775807 := rfl
  have hlen := hA.len
  go_enter Try.func10, Try.ntmps10
  go_wp2_with fail
  go_loopw [5] (fun v5 wr => ∃ k : Nat, k ≤ n ∧ v5 = .int .i64 k ∧ Below w.heap.size w wr) (fun v5 _ => n - (intOf v5).toNat)
  case atStart => exact ⟨0, Nat.zero_le _, rfl, by go_grown⟩
  case round =>
    obtain ⟨k, hk, rfl, hb⟩ := hrel
    by_cases hkn : k < n
    · have hkl : k < L.length := by omega
      obtain ⟨rfl, hg⟩ := hA.value hkl
      obtain ⟨rfl, hg'⟩ := hB.value hkl
      obtain ⟨m, hm⟩ : ∃ m, L[k] = m := ⟨_, rfl⟩
      have hM1 : ∀ q, (ldM (.pointer (some ⟨g, o + k * 15, none⟩))).run Try.prog (wr.drewN q) = .ok (.agg #[.int .i64 m.id, .int .i64 m.fr, .int .i64 m.to, .int .i64 m.se, .int .i64 m.ac, .int .i64 m.lo, .int .i64 m.pa, .int .i64 m.hi, .int .i64 m.dr, .int .i64 m.n, .int .i64 m.st, .int .i64 m.sr, .int .i64 m.tt, .int .i64 m.tr, .int .i64 m.rr]) (wr.drewN q) := fun q => by
        have := (hA.below hb).els k hkl; rw [hm] at this; exact ldM_run this
      have hM2 : ∀ q, (ldM (.pointer (some ⟨g', o' + k * 15, none⟩))).run Try.prog (wr.drewN q) = .ok (.agg #[.int .i64 m.id, .int .i64 m.fr, .int .i64 m.to, .int .i64 m.se, .int .i64 m.ac, .int .i64 m.lo, .int .i64 m.pa, .int .i64 m.hi, .int .i64 m.dr, .int .i64 m.n, .int .i64 m.st, .int .i64 m.sr, .int .i64 m.tt, .int .i64 m.tr, .int .i64 m.rr]) (wr.drewN q) := fun q => by
        have := (hB.below hb).els k hkl; rw [hm] at this; exact ldM_run this
      have EQ := fun w => eqM_same m w
      have hb2 : ∀ q, Below w.heap.size w (wr.drewN q) := fun q => hb.trans ⟨rfl, rfl, rfl, Nat.le_refl _, fun _ _ => rfl⟩
      go_wp2_with fail
      go_quiet (fail)
      go_wp2_with fail
      exact ⟨⟨k + 1, by omega, by simp, hb2 _⟩, by simp only [intOf]; omega⟩
    · go_wp2_with fail
      go_ret
      exact ⟨rfl, hb⟩
end Go.Proofs.Ytpaalpnoppblaaa

/-! W2 -/
namespace Go.Proofs.Ytpaalpnoppblaaa
open Go.RowKit Go.Maps
set_option linter.unusedVariables false
set_option maxRecDepth 8000
theorem same_yes (ao ao' : Option Addr) (n n' c c' : Nat) (A : List Pt) (w : World) (hA : Pks w ao n c A) (hB : Pks w ao' n' c' A) :
    Calls Try.prog 29 #[.slice ao n c, .slice ao' n' c'] w fun e w' => e = .returned (.bool true) ∧ Below w.heap.size w w' := by
  have := same_any ao ao' n n' c c' A A w hA hB
  rw [show decide (A = A) = true from decide_eq_true rfl] at this
  exact this
/-- Books of both, that never meet. -/
structure Both (B : Nat) (w : World) (bb rb : Nat) (SP SR : List Nat) (s : Bk) : Prop where
  p : Bka w bb SP s
  r : Rka w rb SR s
  f : Fit s
  dj : ∀ k ∈ SP, k ∉ SR
  lp : ∀ k ∈ SP, B ≤ k
  lr : ∀ k ∈ SR, B ≤ k
/-- The program's turned alone. -/
structure Half (B : Nat) (w : World) (bb rb : Nat) (SP SR : List Nat) (s t : Bk) : Prop where
  p : Bka w bb SP t
  r : Rka w rb SR s
  dj : ∀ k ∈ SP, k ∉ SR
  lp : ∀ k ∈ SP, B ≤ k
  lr : ∀ k ∈ SR, B ≤ k
section
variable {B : Nat} {w w1 : World} {bb rb : Nat} {SP SR SP' SR' : List Nat} {s t : Bk}
theorem Both.below (h : Both B w bb rb SP SR s) (k : Below w.heap.size w w1) : Both B w1 bb rb SP SR s := ⟨h.p.below k, h.r.below k, h.f, h.dj, h.lp, h.lr⟩
theorem Half.below (h : Half B w bb rb SP SR s t) (k : Below w.heap.size w w1) : Half B w1 bb rb SP SR s t := ⟨h.p.below k, h.r.below k, h.dj, h.lp, h.lr⟩
theorem Both.half (h : Both B w bb rb SP SR s) (hB : B ≤ w.heap.size) (G : Goes SP SP' w w1) (H : Bka w1 bb SP' t) : Half B w1 bb rb SP' SR s t :=
  ⟨H, h.r.far G.far (fun k hk hp => h.dj k hp hk), fun k hk hr => by
    rcases G.sub k hk with h1 | h1
    · exact h.dj k h1 hr
    · have := h.r.low k hr; omega, fun k hk => by
    rcases G.sub k hk with h1 | h1
    · exact h.lp k h1
    · omega, h.lr⟩
theorem Half.both (h : Half B w bb rb SP SR s t) (hB : B ≤ w.heap.size) (G : Goes SR SR' w w1) (R : Rka w1 rb SR' t) (hf : Fit t) : Both B w1 bb rb SP SR' t :=
  ⟨h.p.far G.far h.dj, R, hf, fun k hk hr => by
    rcases G.sub k hr with h1 | h1
    · exact h.dj k hk h1
    · have := h.p.low k hk; omega, h.lp, fun k hk => by
    rcases G.sub k hk with h1 | h1
    · exact h.lr k h1
    · omega⟩
end
attribute [local go_sem ↓] ldM_shut
set_option maxHeartbeats 8000000 in
theorem answers_any (X w : World) (hX : Below X.heap.size X w) (bb rb : Nat) (SP SR : List Nat) (s : Bk) (zk zs za zq : Int) (s0 : -9223372036854775808 ≤ zs) (s1 : zs ≤ 9223372036854775807) (a0 : -9223372036854775808 ≤ za) (a1 : za ≤ 9223372036854775807) (q0 : 0 ≤ zq) (q1 : zq ≤ 18446744073709551615) (hb : s.begun ≤ 4611686018427387904) (h : Both X.heap.size w bb rb SP SR s) :
    Calls Try.prog 9 #[.pointer (some ⟨bb, 0, none⟩), .pointer (some ⟨rb, 0, none⟩), .agg #[.int .i64 zk, .int .i64 zs, .int .i64 za, .int .u64 zq]] w fun e w' =>
      e = .returned (.bool true) ∧ (∃ t SP' SR', Both X.heap.size w' bb rb SP' SR' t ∧ Kept s t) ∧ Below X.heap.size X w' := by
  have hsz := hX.size
  have hfit := h.f
  have O := Ob.fresh w #[.int .i64 zk, .int .i64 zs, .int .i64 za, .int .u64 zq] 34
  have hA := h.below ((Below.refl _ w).alloc (Nat.le_refl _) (.cells #[.int .i64 zk, .int .i64 zs, .int .i64 za, .int .u64 zq] 34))
  have XA : Below X.heap.size X (w.alloc (.cells #[.int .i64 zk, .int .i64 zs, .int .i64 za, .int .u64 zq] 34)) := hX.alloc hsz _
  have hgP : w.heap.size ∉ SP := fun hm => by have := h.p.low _ hm; omega
  have hgR : w.heap.size ∉ SR := fun hm => by have := h.r.low _ hm; omega
  clear h hX
  go_enter Try.func9, Try.ntmps9
  by_cases hk0 : zk = 0
  · subst hk0
    go_wp2_with fail
    generalize w.alloc (.cells #[.int .i64 0, .int .i64 zs, .int .i64 za, .int .u64 zq] 34) = W1 at *
    generalize w.heap.size = g at *
    have hs1 : X.heap.size ≤ W1.heap.size := XA.size
    have hgl : g < W1.heap.size := O.lt
    refine (Begin_any bb SP s hfit za a0 a1 hb _ hA.p).mono ?_
    rintro e w2 ⟨rfl, SP', HP2, G2⟩
    have h2 := hA.half hs1 G2 HP2
    have X2 := Far.call XA hs1 G2.far hA.lp
    have O2 := O.far G2.far hgP
    have d1 : w2.cell? ⟨g, 1, none⟩ = some (.int .i64 zs) := O2.cell rfl
    have d2 : w2.cell? ⟨g, 2, none⟩ = some (.int .i64 za) := O2.cell rfl
    clear hA XA O O2 HP2 G2
    go_wp2_with fail
    obtain ⟨W2, hW2⟩ : ∃ W2, w2 = W2 := ⟨_, rfl⟩
    subst hW2
    obtain ⟨lb5, B5, lv5, ao5, g5, o5, c5, HR⟩ := h2.r
    refine (rbegin_any rb lb5 B5 lv5 ao5 g5 o5 c5 SR s hfit za a0 a1 hb _ HR).mono ?_
    rintro e w3 ⟨rfl, SR', HR3, G3⟩
    have hs2 := X2.size
    have h3 := h2.both hs2 G3 HR3 (bg_fit hfit za)
    have X3 := Far.call X2 hs2 G3.far h2.lr
    have KP := (bg_kept s za).1
    obtain ⟨h4, X4⟩ : _ ∧ _ := ⟨h3, X3⟩
    clear h2 h3 X2 X3 HR HR3 G3 d1 d2
    go_wp2_with fail
    go_ret
    exact ⟨rfl, ⟨_, _, _, h4, KP⟩, X4⟩
  by_cases hk1 : zk = 1
  · subst hk1
    go_wp2_with fail
    generalize w.alloc (.cells #[.int .i64 1, .int .i64 zs, .int .i64 za, .int .u64 zq] 34) = W1 at *
    generalize w.heap.size = g at *
    have hs1 : X.heap.size ≤ W1.heap.size := XA.size
    have hgl : g < W1.heap.size := O.lt
    refine (Send_any bb SP s hfit zs za s0 s1 a0 a1 _ hA.p).mono ?_
    rintro e w2 ⟨rfl, HP2, F2⟩
    obtain ⟨SP', hSP⟩ : ∃ SP', SP = SP' := ⟨_, rfl⟩
    have G2 : Goes SP SP' W1 w2 := ⟨F2, fun k hk => .inl (by rw [hSP]; exact hk)⟩
    rw [hSP] at HP2
    have h2 := hA.half hs1 G2 HP2
    have X2 := Far.call XA hs1 G2.far hA.lp
    have O2 := O.far G2.far hgP
    have d1 : w2.cell? ⟨g, 1, none⟩ = some (.int .i64 zs) := O2.cell rfl
    have d2 : w2.cell? ⟨g, 2, none⟩ = some (.int .i64 za) := O2.cell rfl
    clear hA XA O O2 HP2 G2 F2 hSP
    go_wp2_with fail
    obtain ⟨W2, hW2⟩ : ∃ W2, w2 = W2 := ⟨_, rfl⟩
    subst hW2
    obtain ⟨lb5, B5, lv5, ao5, g5, o5, c5, HR⟩ := h2.r
    refine (rbsend_any rb lb5 B5 lv5 ao5 g5 o5 c5 SR s hfit zs za s0 s1 a0 a1 hb _ HR).mono ?_
    rintro e w3 ⟨rfl, SR', HR3, G3⟩
    have hs2 := X2.size
    have h3 := h2.both hs2 G3 HR3 (sd_fit hfit zs za)
    have X3 := Far.call X2 hs2 G3.far h2.lr
    have KP := (sd_kept s zs za).1
    obtain ⟨h4, X4⟩ : _ ∧ _ := ⟨h3, X3⟩
    clear h2 h3 X2 X3 HR HR3 G3 d1 d2
    go_wp2_with fail
    go_ret
    exact ⟨rfl, ⟨_, _, _, h4, KP⟩, X4⟩
  by_cases hk2 : zk = 2
  · subst hk2
    go_wp2_with fail
    generalize w.alloc (.cells #[.int .i64 2, .int .i64 zs, .int .i64 za, .int .u64 zq] 34) = W1 at *
    generalize w.heap.size = g at *
    have hs1 : X.heap.size ≤ W1.heap.size := XA.size
    have hgl : g < W1.heap.size := O.lt
    obtain ⟨P, hP⟩ : ∃ P, stP s zq za = P := ⟨_, rfl⟩
    obtain ⟨E, hE⟩ : ∃ x, stE s zq za = x := ⟨_, rfl⟩
    refine (Ack_any bb SP s hfit zq za q0 q1 a0 a1 _ hA.p).mono ?_
    rintro e w2 ⟨rfl, HP2, F2⟩
    obtain ⟨SP', hSP⟩ : ∃ SP', SP = SP' := ⟨_, rfl⟩
    have G2 : Goes SP SP' W1 w2 := ⟨F2, fun k hk => .inl (by rw [hSP]; exact hk)⟩
    rw [hSP] at HP2
    have h2 := hA.half hs1 G2 HP2
    have X2 := Far.call XA hs1 G2.far hA.lp
    have O2 := O.far G2.far hgP
    rw [hP, hE]
    have P2 := Ob.fresh w2 #[.int .u64 P.seq, .int .i64 P.mi, .int .i64 P.size, .int .i64 P.sent] 57
    have d2 : w2.cell? ⟨g, 2, none⟩ = some (.int .i64 za) := O2.cell rfl
    have d3 : w2.cell? ⟨g, 3, none⟩ = some (.int .u64 zq) := O2.cell rfl
    have hg2 : g < w2.heap.size := O2.lt
    have hpR : w2.heap.size ∉ SR := fun hm => by have := h2.r.low _ hm; omega
    replace h2 := h2.below ((Below.refl _ w2).alloc (Nat.le_refl _) (.cells #[.int .u64 P.seq, .int .i64 P.mi, .int .i64 P.size, .int .i64 P.sent] 57))
    replace X2 : Below X.heap.size X (w2.alloc (.cells #[.int .u64 P.seq, .int .i64 P.mi, .int .i64 P.size, .int .i64 P.sent] 57)) := X2.alloc X2.size _
    clear hA XA O O2 HP2 G2 F2 hSP
    go_wp2_with fail
    generalize w2.alloc (.cells #[.int .u64 P.seq, .int .i64 P.mi, .int .i64 P.size, .int .i64 P.sent] 57) = W2 at *
    generalize w2.heap.size = p1 at *
    obtain ⟨lb5, B5, lv5, ao5, g5, o5, c5, HR⟩ := h2.r
    refine (rback_any rb lb5 B5 lv5 ao5 g5 o5 c5 SR s hfit zq za q0 q1 a0 a1 _ HR).mono ?_
    rintro e w3 ⟨rfl, SR', HR3, G3⟩
    have hs2 := X2.size
    have h3 := h2.both hs2 G3 HR3 (st_fit hfit true zq za)
    have X3 := Far.call X2 hs2 G3.far h2.lr
    have KP := (st_kept true s zq za).1
    rw [hP, hE]
    have P3 := P2.far G3.far hpR
    have e0 : w3.cell? ⟨p1, 0, none⟩ = some (.int .u64 P.seq) := P3.cell rfl
    have e1 : w3.cell? ⟨p1, 1, none⟩ = some (.int .i64 P.mi) := P3.cell rfl
    have e2 : w3.cell? ⟨p1, 2, none⟩ = some (.int .i64 P.size) := P3.cell rfl
    have e3 : w3.cell? ⟨p1, 3, none⟩ = some (.int .i64 P.sent) := P3.cell rfl
    have hpl : p1 < w3.heap.size := P3.lt
    have EQ : ∀ w, (Op.equalIn 10000 57 (.agg #[.int .u64 P.seq, .int .i64 P.mi, .int .i64 P.size, .int .i64 P.sent]) (.agg #[.int .u64 P.seq, .int .i64 P.mi, .int .i64 P.size, .int .i64 P.sent])).run Try.prog w = .ok true w := fun w => by
      have := eqPt P P w
      rw [show decide (P = P) = true from decide_eq_true rfl] at this
      exact this
    have h4 := h3.below ((Below.refl _ w3).alloc (Nat.le_refl _) (.cells #[.int .u64 P.seq, .int .i64 P.mi, .int .i64 P.size, .int .i64 P.sent] 57))
    have X4 : Below X.heap.size X (w3.alloc (.cells #[.int .u64 P.seq, .int .i64 P.mi, .int .i64 P.size, .int .i64 P.sent] 57)) := X3.alloc X3.size _
    clear h2 h3 X2 X3 P2 P3 HR HR3 G3 hP hE d2 d3
    go_wp2_with fail
    go_ret
    exact ⟨rfl, ⟨_, _, _, h4, KP⟩, X4⟩
  by_cases hk3 : zk = 3
  · subst hk3
    go_wp2_with fail
    generalize w.alloc (.cells #[.int .i64 3, .int .i64 zs, .int .i64 za, .int .u64 zq] 34) = W1 at *
    generalize w.heap.size = g at *
    have hs1 : X.heap.size ≤ W1.heap.size := XA.size
    have hgl : g < W1.heap.size := O.lt
    obtain ⟨P, hP⟩ : ∃ P, stP s zq za = P := ⟨_, rfl⟩
    obtain ⟨E, hE⟩ : ∃ x, stE s zq za = x := ⟨_, rfl⟩
    refine (Lose_any bb SP s hfit zq za q0 q1 a0 a1 _ hA.p).mono ?_
    rintro e w2 ⟨rfl, HP2, F2⟩
    obtain ⟨SP', hSP⟩ : ∃ SP', SP = SP' := ⟨_, rfl⟩
    have G2 : Goes SP SP' W1 w2 := ⟨F2, fun k hk => .inl (by rw [hSP]; exact hk)⟩
    rw [hSP] at HP2
    have h2 := hA.half hs1 G2 HP2
    have X2 := Far.call XA hs1 G2.far hA.lp
    have O2 := O.far G2.far hgP
    rw [hP, hE]
    have P2 := Ob.fresh w2 #[.int .u64 P.seq, .int .i64 P.mi, .int .i64 P.size, .int .i64 P.sent] 57
    have d2 : w2.cell? ⟨g, 2, none⟩ = some (.int .i64 za) := O2.cell rfl
    have d3 : w2.cell? ⟨g, 3, none⟩ = some (.int .u64 zq) := O2.cell rfl
    have hg2 : g < w2.heap.size := O2.lt
    have hpR : w2.heap.size ∉ SR := fun hm => by have := h2.r.low _ hm; omega
    replace h2 := h2.below ((Below.refl _ w2).alloc (Nat.le_refl _) (.cells #[.int .u64 P.seq, .int .i64 P.mi, .int .i64 P.size, .int .i64 P.sent] 57))
    replace X2 : Below X.heap.size X (w2.alloc (.cells #[.int .u64 P.seq, .int .i64 P.mi, .int .i64 P.size, .int .i64 P.sent] 57)) := X2.alloc X2.size _
    clear hA XA O O2 HP2 G2 F2 hSP
    go_wp2_with fail
    generalize w2.alloc (.cells #[.int .u64 P.seq, .int .i64 P.mi, .int .i64 P.size, .int .i64 P.sent] 57) = W2 at *
    generalize w2.heap.size = p1 at *
    obtain ⟨lb5, B5, lv5, ao5, g5, o5, c5, HR⟩ := h2.r
    refine (rblose_any rb lb5 B5 lv5 ao5 g5 o5 c5 SR s hfit zq za q0 q1 a0 a1 _ HR).mono ?_
    rintro e w3 ⟨rfl, SR', HR3, G3⟩
    have hs2 := X2.size
    have h3 := h2.both hs2 G3 HR3 (st_fit hfit false zq za)
    have X3 := Far.call X2 hs2 G3.far h2.lr
    have KP := (st_kept false s zq za).1
    rw [hP, hE]
    have P3 := P2.far G3.far hpR
    have e0 : w3.cell? ⟨p1, 0, none⟩ = some (.int .u64 P.seq) := P3.cell rfl
    have e1 : w3.cell? ⟨p1, 1, none⟩ = some (.int .i64 P.mi) := P3.cell rfl
    have e2 : w3.cell? ⟨p1, 2, none⟩ = some (.int .i64 P.size) := P3.cell rfl
    have e3 : w3.cell? ⟨p1, 3, none⟩ = some (.int .i64 P.sent) := P3.cell rfl
    have hpl : p1 < w3.heap.size := P3.lt
    have EQ : ∀ w, (Op.equalIn 10000 57 (.agg #[.int .u64 P.seq, .int .i64 P.mi, .int .i64 P.size, .int .i64 P.sent]) (.agg #[.int .u64 P.seq, .int .i64 P.mi, .int .i64 P.size, .int .i64 P.sent])).run Try.prog w = .ok true w := fun w => by
      have := eqPt P P w
      rw [show decide (P = P) = true from decide_eq_true rfl] at this
      exact this
    have h4 := h3.below ((Below.refl _ w3).alloc (Nat.le_refl _) (.cells #[.int .u64 P.seq, .int .i64 P.mi, .int .i64 P.size, .int .i64 P.sent] 57))
    have X4 : Below X.heap.size X (w3.alloc (.cells #[.int .u64 P.seq, .int .i64 P.mi, .int .i64 P.size, .int .i64 P.sent] 57)) := X3.alloc X3.size _
    clear h2 h3 X2 X3 P2 P3 HR HR3 G3 hP hE d2 d3
    go_wp2_with fail
    go_ret
    exact ⟨rfl, ⟨_, _, _, h4, KP⟩, X4⟩
  by_cases hk4 : zk = 4
  · subst hk4
    go_wp2_with fail
    generalize w.alloc (.cells #[.int .i64 4, .int .i64 zs, .int .i64 za, .int .u64 zq] 34) = W1 at *
    generalize w.heap.size = g at *
    have hs1 : X.heap.size ≤ W1.heap.size := XA.size
    have hgl : g < W1.heap.size := O.lt
    refine (Expire_any bb SP s hfit za a0 a1 _ hA.p).mono ?_
    rintro e w2 ⟨v, rfl, own2, ⟨oo, HP2, fit2⟩, F2⟩
    obtain ⟨SP', hSP⟩ : ∃ SP', SP = SP' := ⟨_, rfl⟩
    have G2 : Goes SP SP' W1 w2 := ⟨F2, fun k hk => .inl (by rw [hSP]; exact hk)⟩
    rw [hSP] at HP2
    have h2 := hA.half hs1 G2 HP2
    have X2 := Far.call XA hs1 G2.far hA.lp
    have O2 := O.far G2.far hgP
    have d1 : w2.cell? ⟨g, 1, none⟩ = some (.int .i64 zs) := O2.cell rfl
    have d2 : w2.cell? ⟨g, 2, none⟩ = some (.int .i64 za) := O2.cell rfl
    have hownR : ∀ q, v.ownBlock = some q → q ∉ SR := fun q e hm => by have := (own_lt own2 e).2; have := hA.r.low _ hm; omega
    clear hA XA O O2 HP2 G2 F2 hSP
    go_wp2_with fail
    obtain ⟨W2, hW2⟩ : ∃ W2, w2 = W2 := ⟨_, rfl⟩
    subst hW2
    obtain ⟨lb5, B5, lv5, ao5, g5, o5, c5, HR⟩ := h2.r
    refine (rbexpire_any rb lb5 B5 lv5 ao5 g5 o5 c5 SR s hfit za a0 a1 _ HR).mono ?_
    rintro e w3 ⟨v', rfl, own3, SR', HR3', G3⟩
    have HR3 := HR3' oo
    have hs2 := X2.size
    have h3 := h2.both hs2 G3 HR3 (fit2)
    have X3 := Far.call X2 hs2 G3.far h2.lr
    have KP := ex_kept s za oo
    have own4 := own_far2 own2 G3.far hownR
    obtain ⟨ax, cx, rfl, PX⟩ := Pks.own own4
    obtain ⟨ay, cy, rfl, PY⟩ := Pks.own own3
    clear h2 X2 HR HR3 HR3' G3 own2 own3 own4 d1 d2 hownR fit2
    go_wp2_with fail
    refine (same_yes _ _ _ _ _ _ _ _ PX PY).mono ?_
    rintro e w4 ⟨rfl, hw4⟩
    have h4 := h3.below hw4
    have X4 := X3.trans (hw4.mono X3.size)
    clear h3 X3 PX PY hw4
    go_wp2_with fail
    go_ret
    exact ⟨rfl, ⟨_, _, _, h4, KP⟩, X4⟩
  · skip
    go_wp2_with fail
    generalize w.alloc (.cells #[.int .i64 zk, .int .i64 zs, .int .i64 za, .int .u64 zq] 34) = W1 at *
    generalize w.heap.size = g at *
    have hs1 : X.heap.size ≤ W1.heap.size := XA.size
    have hgl : g < W1.heap.size := O.lt
    obtain ⟨M, hM⟩ : ∃ M, tkM s = M := ⟨_, rfl⟩
    obtain ⟨T, hT⟩ : ∃ x, tkB s = x := ⟨_, rfl⟩
    refine (Take_any bb SP s hfit _ hA.p).mono ?_
    rintro e w2 ⟨rfl, HP2, F2⟩
    obtain ⟨SP', hSP⟩ : ∃ SP', SP = SP' := ⟨_, rfl⟩
    have G2 : Goes SP SP' W1 w2 := ⟨F2, fun k hk => .inl (by rw [hSP]; exact hk)⟩
    rw [hSP] at HP2
    have h2 := hA.half hs1 G2 HP2
    have X2 := Far.call XA hs1 G2.far hA.lp
    have O2 := O.far G2.far hgP
    rw [hM, hT]
    have P2 := Ob.fresh w2 #[.int .i64 M.id, .int .i64 M.fr, .int .i64 M.to, .int .i64 M.se, .int .i64 M.ac, .int .i64 M.lo, .int .i64 M.pa, .int .i64 M.hi, .int .i64 M.dr, .int .i64 M.n, .int .i64 M.st, .int .i64 M.sr, .int .i64 M.tt, .int .i64 M.tr, .int .i64 M.rr] 63
    have hpR : w2.heap.size ∉ SR := fun hm => by have := h2.r.low _ hm; omega
    replace h2 := h2.below ((Below.refl _ w2).alloc (Nat.le_refl _) (.cells #[.int .i64 M.id, .int .i64 M.fr, .int .i64 M.to, .int .i64 M.se, .int .i64 M.ac, .int .i64 M.lo, .int .i64 M.pa, .int .i64 M.hi, .int .i64 M.dr, .int .i64 M.n, .int .i64 M.st, .int .i64 M.sr, .int .i64 M.tt, .int .i64 M.tr, .int .i64 M.rr] 63))
    replace X2 : Below X.heap.size X (w2.alloc (.cells #[.int .i64 M.id, .int .i64 M.fr, .int .i64 M.to, .int .i64 M.se, .int .i64 M.ac, .int .i64 M.lo, .int .i64 M.pa, .int .i64 M.hi, .int .i64 M.dr, .int .i64 M.n, .int .i64 M.st, .int .i64 M.sr, .int .i64 M.tt, .int .i64 M.tr, .int .i64 M.rr] 63)) := X2.alloc X2.size _
    clear hA XA O O2 HP2 G2 F2 hSP
    go_wp2_with fail
    generalize w2.alloc (.cells #[.int .i64 M.id, .int .i64 M.fr, .int .i64 M.to, .int .i64 M.se, .int .i64 M.ac, .int .i64 M.lo, .int .i64 M.pa, .int .i64 M.hi, .int .i64 M.dr, .int .i64 M.n, .int .i64 M.st, .int .i64 M.sr, .int .i64 M.tt, .int .i64 M.tr, .int .i64 M.rr] 63) = W2 at *
    generalize w2.heap.size = p1 at *
    obtain ⟨lb5, B5, lv5, ao5, g5, o5, c5, HR⟩ := h2.r
    refine (rbtake_any rb lb5 B5 lv5 ao5 g5 o5 c5 SR s hfit _ HR).mono ?_
    rintro e w3 ⟨rfl, HR3, F3⟩
    obtain ⟨SR', hSR⟩ : ∃ SR', SR = SR' := ⟨_, rfl⟩
    have G3 : Goes SR SR' W2 w3 := ⟨F3, fun k hk => .inl (by rw [hSR]; exact hk)⟩
    rw [hSR] at HR3
    have hs2 := X2.size
    have h3 := h2.both hs2 G3 HR3 (tk_fit hfit)
    have X3 := Far.call X2 hs2 G3.far h2.lr
    have KP := tk_kept s
    rw [hM, hT]
    have P3 := P2.far G3.far hpR
    have EQ := fun w => eqM_same M w
    have h4 := h3.below ((Below.refl _ w3).alloc (Nat.le_refl _) (.cells #[.int .i64 M.id, .int .i64 M.fr, .int .i64 M.to, .int .i64 M.se, .int .i64 M.ac, .int .i64 M.lo, .int .i64 M.pa, .int .i64 M.hi, .int .i64 M.dr, .int .i64 M.n, .int .i64 M.st, .int .i64 M.sr, .int .i64 M.tt, .int .i64 M.tr, .int .i64 M.rr] 63))
    have X4 : Below X.heap.size X (w3.alloc (.cells #[.int .i64 M.id, .int .i64 M.fr, .int .i64 M.to, .int .i64 M.se, .int .i64 M.ac, .int .i64 M.lo, .int .i64 M.pa, .int .i64 M.hi, .int .i64 M.dr, .int .i64 M.n, .int .i64 M.st, .int .i64 M.sr, .int .i64 M.tt, .int .i64 M.tr, .int .i64 M.rr] 63)) := X3.alloc X3.size _
    have P4 := P3.far ((Far.refl [] w3).alloc (.cells #[.int .i64 M.id, .int .i64 M.fr, .int .i64 M.to, .int .i64 M.se, .int .i64 M.ac, .int .i64 M.lo, .int .i64 M.pa, .int .i64 M.hi, .int .i64 M.dr, .int .i64 M.n, .int .i64 M.st, .int .i64 M.sr, .int .i64 M.tt, .int .i64 M.tr, .int .i64 M.rr] 63)) (by simp)
    have Q4 := Ob.fresh w3 #[.int .i64 M.id, .int .i64 M.fr, .int .i64 M.to, .int .i64 M.se, .int .i64 M.ac, .int .i64 M.lo, .int .i64 M.pa, .int .i64 M.hi, .int .i64 M.dr, .int .i64 M.n, .int .i64 M.st, .int .i64 M.sr, .int .i64 M.tt, .int .i64 M.tr, .int .i64 M.rr] 63
    have L1 := ldM_run (m := M) P4.c
    have L2 := ldM_run (m := M) Q4.c
    clear h2 h3 X2 X3 P2 P3 P4 Q4 HR HR3 G3 F3 hSR hM hT
    go_wp2_with fail
    go_ret
    exact ⟨by simp, ⟨_, _, _, h4, KP⟩, X4⟩
end Go.Proofs.Ytpaalpnoppblaaa

/-! W3 -/
namespace Go.Proofs.Ytpaalpnoppblaaa
open Go.RowKit Go.Maps
set_option linter.unusedVariables false
set_option maxRecDepth 8000
theorem wrap_in2 {x : Int} (h1 : -9223372036854775808 ≤ x) (h2 : x ≤ 9223372036854775807) : IntKind.i64.wrap x = x := by unfold IntKind.wrap; simp [IntKind.bits, IntKind.signed]; omega
set_option maxHeartbeats 8000000 in
theorem bdoes_walk (room first timeout : Int) (ao : Option Addr) (n c : Nat) (Z : Nat → St) (r0 : -9223372036854775808 ≤ room) (r1 : room ≤ 9223372036854775807) (f0 : 0 ≤ first) (f1 : first ≤ 18446744073709551615) (t0 : -9223372036854775808 ≤ timeout) (t1 : timeout ≤ 9223372036854775807) (w : World) (hz : Steps w ao n c Z) :
    Calls Try.prog 3 #[.int .i64 room, .int .u64 first, .int .i64 timeout, .slice ao n c] w fun e w' => e = .returned (.bool true) ∧ Below w.heap.size w w' := by
  have hcap := hz.cap; have hmax := hz.max
  have hmx : maxLen = 9223372036854775807 := rfl
  go_enter Try.func3, Try.ntmps3
  go_wp2_with fail
  refine (short_any ao n c _ (by omega)).mono ?_
  rintro e w0 ⟨rfl, hB0⟩
  by_cases hn : n ≤ 150
  rotate_left
  · rw [decide_eq_false hn]
    go_wp2_with fail
    go_ret
    exact ⟨rfl, hB0⟩
  rw [decide_eq_true hn]
  by_cases hr : room < 1 ∨ 4096 < room
  · skip
    go_wp2_with fail
    refine (bnew_arg room first timeout hr _).mono ?_
    rintro e w1 ⟨rfl, hw1⟩
    have B1 := hB0.trans (hw1.mono hB0.size)
    go_wp2_with fail
    refine (rbnew_arg room first timeout hr _).mono ?_
    rintro e w2 ⟨rfl, hw2⟩
    have B2 := B1.trans (hw2.mono B1.size)
    clear hB0 B1 hw1 hw2
    go_wp2_with fail
    go_loopw [13] (fun vi wr => vi = .int .i64 0 ∧ Below w.heap.size w wr) (fun _ _ => 0)
    case atStart => exact ⟨rfl, B2⟩
    case round =>
      obtain ⟨rfl, hB⟩ := hrel
      by_cases h0 : 0 < (n : Int)
      · go_wp2_with fail
        refine (booked_any _).mono ?_
        rintro e w3 ⟨rfl, B3⟩
        have B4 := hB.trans (B3.mono hB.size)
        go_wp2_with fail
        go_ret
        exact ⟨rfl, B4⟩
      · have h1 : decide ((0 : Int) < (n : Int)) = false := decide_eq_false h0
        go_wp2_with fail
        refine (booked_any _).mono ?_
        rintro e w3 ⟨rfl, B3⟩
        have B4 := hB.trans (B3.mono hB.size)
        go_wp2_with fail
        go_ret
        exact ⟨rfl, B4⟩
  by_cases ht : timeout < 1 ∨ 60000000 < timeout
  · skip
    go_wp2_with fail
    refine (bnew_span room first timeout (by omega) (by omega) f0 f1 ht _).mono ?_
    rintro e w1 ⟨rfl, hw1⟩
    have B1 := hB0.trans (hw1.mono hB0.size)
    go_wp2_with fail
    refine (rbnew_span room first timeout (by omega) (by omega) ht _).mono ?_
    rintro e w2 ⟨rfl, hw2⟩
    have B2 := B1.trans (hw2.mono B1.size)
    clear hB0 B1 hw1 hw2
    go_wp2_with fail
    go_loopw [13] (fun vi wr => vi = .int .i64 0 ∧ Below w.heap.size w wr) (fun _ _ => 0)
    case atStart => exact ⟨rfl, B2⟩
    case round =>
      obtain ⟨rfl, hB⟩ := hrel
      by_cases h0 : 0 < (n : Int)
      · go_wp2_with fail
        refine (booked_any _).mono ?_
        rintro e w3 ⟨rfl, B3⟩
        have B4 := hB.trans (B3.mono hB.size)
        go_wp2_with fail
        go_ret
        exact ⟨rfl, B4⟩
      · have h1 : decide ((0 : Int) < (n : Int)) = false := decide_eq_false h0
        go_wp2_with fail
        refine (booked_any _).mono ?_
        rintro e w3 ⟨rfl, B3⟩
        have B4 := hB.trans (B3.mono hB.size)
        go_wp2_with fail
        go_ret
        exact ⟨rfl, B4⟩
  go_wp2_with fail
  refine (bnew_yes room first timeout (by omega) (by omega) f0 f1 (by omega) (by omega) _).mono ?_
  rintro e w1 ⟨bb, S1, rfl, HB1, hS1, hw1⟩
  have B1 := hB0.trans (hw1.mono hB0.size)
  have hl1 : ∀ k ∈ S1, k < w1.heap.size := HB1.low
  go_wp2_with fail
  refine (rbnew_yes room first timeout (by omega) (by omega) (by omega) (by omega) _).mono ?_
  rintro e w2 ⟨rb, R1, rfl, HR1, hR1, hw2⟩
  have B2 := B1.trans (hw2.mono B1.size)
  have hb0s := hB0.size
  have hb1s := B1.size
  have both1 : Both w.heap.size w2 bb rb S1 R1 ⟨⟨room, first, first, first, 0, []⟩, 0, timeout, 0, []⟩ :=
    ⟨HB1.below hw2, HR1, new_fit (lnew_ok room first (by omega) (by omega) f0 f1) rfl rfl (by omega) (by omega), fun k hk hr => by have := hl1 k hk; have := hR1 k hr; omega, fun k hk => by have := hS1 k hk; omega, fun k hk => by have := hR1 k hk; omega⟩
  clear hB0 HB1 hS1 hw1 B1 hl1 HR1 hR1 hw2 hb0s hb1s
  go_wp2_with fail
  go_loopw [13] (fun vi wr => ∃ (i : Nat) (s : Bk) (SP SR : List Nat), i ≤ n ∧ vi = .int .i64 i ∧ s.begun ≤ i ∧ s.l.room = room ∧ Both w.heap.size wr bb rb SP SR s ∧ Below w.heap.size w wr) (fun vi _ => n - (intOf vi).toNat)
  case atStart => exact ⟨0, _, S1, R1, Nat.zero_le _, rfl, Int.le_refl _, rfl, both1, B2⟩
  case round =>
    clear both1 B2
    obtain ⟨i, s, SP, SR, hi, rfl, hbeg, hroom, hboth, hB⟩ := hrel
    by_cases hin : (i : Int) < (n : Int)
    · have hzr := hz.below hB
      obtain ⟨b, o, rfl, hbl, hc⟩ := hzr.at' (by omega)
      have hbd := hzr.bd i
      obtain ⟨c0, c1, c2, c3⟩ := hc i (by omega)
      clear hc hzr
      generalize Z i = z at *
      obtain ⟨⟨k0, k1⟩, ⟨s0, s1⟩, ⟨a0, a1⟩, q0, q1⟩ := hbd
      obtain ⟨zk, zs, za, zq⟩ := z
      simp only at *
      have hbD : Both w.heap.size wr.drew bb rb SP SR s := hboth.below (Below.refl _ _).drew
      have hXD : Below w.heap.size w wr.drew := hB.drew
      have T := answers_any w wr.drew hXD bb rb SP SR s zk zs za zq s0 s1 a0 a1 q0 q1 (by omega) hbD
      clear hboth hB hz hbD hXD
      go_upto_region 10 with fail
      refine wp_region_any (by kernel_rfl) ?_
      try (change wpAny _ _ _ _ _ _ _ (World.drew _))
      refine wpAny_take (i := 0) (oi := ⟨_, _, _, _, _, _⟩) (v := ?_) rfl (by kernel_rfl) (by kernel_rfl) (by kernel_rfl) (fun _ _ _ h => h) (Or.inl ⟨by rfl, ?_⟩) ?_
      rotate_left
      · (intro w; go_simp; try with_reducible rfl)
      try simp only [Act.put, List.setIfInBounds_toArray, List.set_cons_zero, List.set_cons_succ]
      refine wpAny_take (i := 1) (oi := ⟨_, _, _, _, _, _⟩) (v := ?_) rfl (by kernel_rfl) (by kernel_rfl) (by kernel_rfl) (fun _ _ _ h => h) (Or.inl ⟨by rfl, ?_⟩) ?_
      rotate_left
      · (intro w; go_simp; try with_reducible rfl)
      try simp only [Act.put, List.setIfInBounds_toArray, List.set_cons_zero, List.set_cons_succ]
      refine wpAny_take (i := 2) (oi := ⟨_, _, _, _, _, _⟩) (v := ?_) rfl (by kernel_rfl) (by kernel_rfl) (by kernel_rfl) (fun _ _ _ h => h) (Or.inl ⟨by rfl, ?_⟩) ?_
      rotate_left
      · (intro w; go_simp; try with_reducible rfl)
      try simp only [Act.put, List.setIfInBounds_toArray, List.set_cons_zero, List.set_cons_succ]
      refine wpAny_take (i := 3) (oi := ⟨_, _, _, _, _, _⟩) (v := ?_) rfl (by kernel_rfl) (by kernel_rfl) (by kernel_rfl) (fun _ _ _ h => h) (Or.inl ⟨by rfl, ?_⟩) ?_
      rotate_left
      · (intro w; go_simp; try with_reducible rfl)
      try simp only [Act.put, List.setIfInBounds_toArray, List.set_cons_zero, List.set_cons_succ]
      refine wpAny_take (i := 4) (oi := ⟨_, _, _, _, _, _⟩) (v := ?_) rfl (by kernel_rfl) (by kernel_rfl) (by kernel_rfl) (fun _ _ _ h => h) (Or.inl ⟨by rfl, ?_⟩) ?_
      rotate_left
      · (intro w; go_simp; try with_reducible rfl)
      try simp only [Act.put, List.setIfInBounds_toArray, List.set_cons_zero, List.set_cons_succ]
      refine wpAny_ready (rs := [5]) (by kernel_rfl) (by simp) ?_
      refine AllReady.cons (o := ⟨_, _, _, _, _, _⟩) rfl (fun K hK => ?_) AllReady.nil
      go_simp
      refine hK _ _ ?_
      clear hK K
      try simp only [Act.put, List.setIfInBounds_toArray, List.set_cons_zero, List.set_cons_succ]
      refine wpAny_ready (rs := [6]) (by kernel_rfl) (by simp) ?_
      refine AllReady.cons (o := ⟨_, _, _, _, _, _⟩) rfl (fun K hK => ?_) AllReady.nil
      go_simp
      refine T.mono ?_
      clear T
      rintro e w3 ⟨rfl, ⟨t, SP3, SR3, h3, KP⟩, B3⟩
      have hf3 := h3.f
      obtain ⟨lb5, B5, lv5, ao5, g5, o5, c5, HR5⟩ := h3.r
      obtain ⟨al, cl, PV, PL⟩ := Pks.own HR5.led.row
      subst PV
      clear PL
      have p1 := HR5.cells.2.1
      have hlr := hf3.ok.len; have hl1 := hf3.ok.r1; have hl0 := hf3.ok.r0
      have hKr : Hid (t.l.room = room) := KP.r.trans hroom
      have hwr : IntKind.i64.wrap (room - (t.l.L.length : Int)) = room - (t.l.L.length : Int) := wrap_in2 (by omega) (by omega)
      (try (refine hK _ _ ?_))
      clear hK K
      try simp only [Act.put, List.setIfInBounds_toArray, List.set_cons_zero, List.set_cons_succ]
      refine wpAny_take (i := 7) (oi := ⟨_, _, _, _, _, _⟩) (v := ?_) rfl (by kernel_rfl) (by kernel_rfl) (by kernel_rfl) (fun _ _ _ h => h) (Or.inl ⟨by rfl, ?_⟩) ?_
      rotate_left
      · (intro w; go_simp; try with_reducible rfl)
      try simp only [Act.put, List.setIfInBounds_toArray, List.set_cons_zero, List.set_cons_succ]
      refine wpAny_take (i := 8) (oi := ⟨_, _, _, _, _, _⟩) (v := ?_) rfl (by kernel_rfl) (by kernel_rfl) (by kernel_rfl) (fun _ _ _ h => h) (Or.inl ⟨by rfl, ?_⟩) ?_
      rotate_left
      · (intro w; go_simp; try with_reducible rfl)
      try simp only [Act.put, List.setIfInBounds_toArray, List.set_cons_zero, List.set_cons_succ]
      refine wpAny_take (i := 9) (oi := ⟨_, _, _, _, _, _⟩) (v := ?_) rfl (by kernel_rfl) (by kernel_rfl) (by kernel_rfl) (fun _ _ _ h => h) (Or.inl ⟨by rfl, ?_⟩) ?_
      rotate_left
      · (intro w; go_simp; try with_reducible rfl)
      try simp only [Act.put, List.setIfInBounds_toArray, List.set_cons_zero, List.set_cons_succ]
      refine wpAny_take (i := 11) (oi := ⟨_, _, _, _, _, _⟩) (v := ?_) rfl (by kernel_rfl) (by kernel_rfl) (by kernel_rfl) (fun _ _ _ h => h) (Or.inl ⟨by rfl, ?_⟩) ?_
      rotate_left
      · (intro w; go_simp; try with_reducible rfl)
      try simp only [Act.put, List.setIfInBounds_toArray, List.set_cons_zero, List.set_cons_succ]
      refine wpAny_take (i := 12) (oi := ⟨_, _, _, _, _, _⟩) (v := ?_) rfl (by kernel_rfl) (by kernel_rfl) (by kernel_rfl) (fun _ _ _ h => h) (Or.inl ⟨by rfl, ?_⟩) ?_
      rotate_left
      · (intro w; go_simp; try with_reducible rfl)
      try simp only [Act.put, List.setIfInBounds_toArray, List.set_cons_zero, List.set_cons_succ]
      refine wpAny_take (i := 13) (oi := ⟨_, _, _, _, _, _⟩) (v := ?_) rfl (by kernel_rfl) (by kernel_rfl) (by kernel_rfl) (fun _ _ _ h => h) (Or.inl ⟨by rfl, ?_⟩) ?_
      rotate_left
      · (intro w; go_simp; try with_reducible rfl)
      try simp only [Act.put, List.setIfInBounds_toArray, List.set_cons_zero, List.set_cons_succ]
      refine wpAny_ready (rs := [10, 14]) (by kernel_rfl) (by simp) ?_
      refine AllReady.cons (o := ⟨_, _, _, _, _, _⟩) rfl (fun K hK => ?_) (AllReady.cons (o := ⟨_, _, _, _, _, _⟩) rfl (fun K hK => ?_) AllReady.nil)
      · skip
        go_simp
        refine (mis_any bb SP3 t hf3 _ h3.p).mono ?_
        rintro e w4 ⟨ao4, g4, o4, c4, rfl, hM4, B4⟩
        have p1' := (HR5.below B4).cells.2.1
        (try (refine hK _ _ ?_))
        clear hK K
        try simp only [Act.put, List.setIfInBounds_toArray, List.set_cons_zero, List.set_cons_succ]
        refine wpAny_ready (rs := [14]) (by kernel_rfl) (by simp) ?_
        refine AllReady.cons (o := ⟨_, _, _, _, _, _⟩) rfl (fun K hK => ?_) AllReady.nil
        go_simp
        refine hK _ _ ?_
        clear hK K
        try simp only [Act.put, List.setIfInBounds_toArray, List.set_cons_zero, List.set_cons_succ]
        refine wpAny_ready (rs := [15]) (by kernel_rfl) (by simp) ?_
        refine AllReady.cons (o := ⟨_, _, _, _, _, _⟩) rfl (fun K hK => ?_) AllReady.nil
        go_simp
        refine (msame_any _ _ _ _ _ _ _ _ _ t.L _ hM4 (HR5.row.below B4)).mono ?_
        rintro e w6 ⟨rfl, hw6⟩
        have B6 : Below w3.heap.size w3 w6 := B4.trans (hw6.mono B4.size)
        clear hM4
        have HR6 := HR5.below B6
        have p0 := HR6.cells.1
        have p4 := HR6.led.cells.2.2.2.2.1
        (try (refine hK _ _ ?_))
        clear hK K
        try simp only [Act.put, List.setIfInBounds_toArray, List.set_cons_zero, List.set_cons_succ]
        refine wpAny_take (i := 16) (oi := ⟨_, _, _, _, _, _⟩) (v := ?_) rfl (by kernel_rfl) (by kernel_rfl) (by kernel_rfl) (fun _ _ _ h => h) (Or.inl ⟨by rfl, ?_⟩) ?_
        rotate_left
        · (intro w; go_simp; try with_reducible rfl)
        try simp only [Act.put, List.setIfInBounds_toArray, List.set_cons_zero, List.set_cons_succ]
        refine wpAny_take (i := 17) (oi := ⟨_, _, _, _, _, _⟩) (v := ?_) rfl (by kernel_rfl) (by kernel_rfl) (by kernel_rfl) (fun _ _ _ h => h) (Or.inl ⟨by rfl, ?_⟩) ?_
        rotate_left
        · (intro w; go_simp; try with_reducible rfl)
        try simp only [Act.put, List.setIfInBounds_toArray, List.set_cons_zero, List.set_cons_succ]
        refine wpAny_take (i := 18) (oi := ⟨_, _, _, _, _, _⟩) (v := ?_) rfl (by kernel_rfl) (by kernel_rfl) (by kernel_rfl) (fun _ _ _ h => h) (Or.inl ⟨by rfl, ?_⟩) ?_
        rotate_left
        · (intro w; go_simp; try with_reducible rfl)
        try simp only [Act.put, List.setIfInBounds_toArray, List.set_cons_zero, List.set_cons_succ]
        refine wpAny_take (i := 19) (oi := ⟨_, _, _, _, _, _⟩) (v := ?_) rfl (by kernel_rfl) (by kernel_rfl) (by kernel_rfl) (fun _ _ _ h => h) (Or.inl ⟨by rfl, ?_⟩) ?_
        rotate_left
        · (intro w; go_simp; try with_reducible rfl)
        try simp only [Act.put, List.setIfInBounds_toArray, List.set_cons_zero, List.set_cons_succ]
        refine wpAny_take (i := 21) (oi := ⟨_, _, _, _, _, _⟩) (v := ?_) rfl (by kernel_rfl) (by kernel_rfl) (by kernel_rfl) (fun _ _ _ h => h) (Or.inl ⟨by rfl, ?_⟩) ?_
        rotate_left
        · (intro w; go_simp; try with_reducible rfl)
        try simp only [Act.put, List.setIfInBounds_toArray, List.set_cons_zero, List.set_cons_succ]
        refine wpAny_take (i := 22) (oi := ⟨_, _, _, _, _, _⟩) (v := ?_) rfl (by kernel_rfl) (by kernel_rfl) (by kernel_rfl) (fun _ _ _ h => h) (Or.inl ⟨by rfl, ?_⟩) ?_
        rotate_left
        · (intro w; go_simp; try with_reducible rfl)
        try simp only [Act.put, List.setIfInBounds_toArray, List.set_cons_zero, List.set_cons_succ]
        refine wpAny_take (i := 23) (oi := ⟨_, _, _, _, _, _⟩) (v := ?_) rfl (by kernel_rfl) (by kernel_rfl) (by kernel_rfl) (fun _ _ _ h => h) (Or.inl ⟨by rfl, ?_⟩) ?_
        rotate_left
        · (intro w; go_simp; try with_reducible rfl)
        try simp only [Act.put, List.setIfInBounds_toArray, List.set_cons_zero, List.set_cons_succ]
        refine wpAny_take (i := 24) (oi := ⟨_, _, _, _, _, _⟩) (v := ?_) rfl (by kernel_rfl) (by kernel_rfl) (by kernel_rfl) (fun _ _ _ h => h) (Or.inl ⟨by rfl, ?_⟩) ?_
        rotate_left
        · (intro w; go_simp; try with_reducible rfl)
        try simp only [Act.put, List.setIfInBounds_toArray, List.set_cons_zero, List.set_cons_succ]
        refine wpAny_ready (rs := [20, 25]) (by kernel_rfl) (by simp) ?_
        refine AllReady.cons (o := ⟨_, _, _, _, _, _⟩) rfl (fun K hK => ?_) (AllReady.cons (o := ⟨_, _, _, _, _, _⟩) rfl (fun K hK => ?_) AllReady.nil)
        · skip
          go_simp
          refine (bfree_any bb SP3 t hf3 _ (h3.p.below B6)).mono ?_
          rintro e w7 ⟨rfl, hw7⟩
          rw [hKr.out]
          have B7 : Below w3.heap.size w3 w7 := B6.trans (hw7.mono B6.size)
          have HR7 := HR5.below B7
          have p0' := HR7.cells.1
          have p4' := HR7.led.cells.2.2.2.2.1
          (try (refine hK _ _ ?_))
          clear hK K
          try simp only [Act.put, List.setIfInBounds_toArray, List.set_cons_zero, List.set_cons_succ]
          refine wpAny_ready (rs := [25]) (by kernel_rfl) (by simp) ?_
          refine AllReady.cons (o := ⟨_, _, _, _, _, _⟩) rfl (fun K hK => ?_) AllReady.nil
          go_simp
          refine hK _ _ ?_
          clear hK K
          try simp only [Act.put, List.setIfInBounds_toArray, List.set_cons_zero, List.set_cons_succ]
          refine wpAny_take (i := 26) (oi := ⟨_, _, _, _, _, _⟩) (v := ?_) rfl (by kernel_rfl) (by kernel_rfl) (by kernel_rfl) (fun _ _ _ h => h) (Or.inl ⟨by rfl, ?_⟩) ?_
          rotate_left
          · (intro w; go_simp; try with_reducible rfl)
          try simp only [Act.put, List.setIfInBounds_toArray, List.set_cons_zero, List.set_cons_succ]
          refine wpAny_take (i := 27) (oi := ⟨_, _, _, _, _, _⟩) (v := ?_) rfl (by kernel_rfl) (by kernel_rfl) (by kernel_rfl) (fun _ _ _ h => h) (Or.inl ⟨by rfl, ?_⟩) ?_
          rotate_left
          · (intro w; go_simp; try with_reducible rfl)
          try simp only [Act.put, List.setIfInBounds_toArray, List.set_cons_zero, List.set_cons_succ]
          refine wpAny_ready (rs := [28]) (by kernel_rfl) (by simp) ?_
          refine AllReady.cons (o := ⟨_, _, _, _, _, _⟩) rfl (fun K hK => ?_) AllReady.nil
          go_simp
          refine hK _ _ ?_
          clear hK K
          try simp only [Act.put, List.setIfInBounds_toArray, List.set_cons_zero, List.set_cons_succ]
          refine wpAny_take (i := 29) (oi := ⟨_, _, _, _, _, _⟩) (v := ?_) rfl (by kernel_rfl) (by kernel_rfl) (by kernel_rfl) (fun _ _ _ h => h) (Or.inl ⟨by rfl, ?_⟩) ?_
          rotate_left
          · (intro w; go_simp; try with_reducible rfl)
          try simp only [Act.put, List.setIfInBounds_toArray, List.set_cons_zero, List.set_cons_succ]
          refine wpAny_take (i := 30) (oi := ⟨_, _, _, _, _, _⟩) (v := ?_) rfl (by kernel_rfl) (by kernel_rfl) (by kernel_rfl) (fun _ _ _ h => h) (Or.inl ⟨by rfl, ?_⟩) ?_
          rotate_left
          · (intro w; go_simp; try with_reducible rfl)
          try simp only [Act.put, List.setIfInBounds_toArray, List.set_cons_zero, List.set_cons_succ]
          refine wpAny_take (i := 31) (oi := ⟨_, _, _, _, _, _⟩) (v := ?_) rfl (by kernel_rfl) (by kernel_rfl) (by kernel_rfl) (fun _ _ _ h => h) (Or.inl ⟨by rfl, ?_⟩) ?_
          rotate_left
          · (intro w; go_simp; try with_reducible rfl)
          try simp only [Act.put, List.setIfInBounds_toArray, List.set_cons_zero, List.set_cons_succ]
          refine wpAny_take (i := 32) (oi := ⟨_, _, _, _, _, _⟩) (v := ?_) rfl (by kernel_rfl) (by kernel_rfl) (by kernel_rfl) (fun _ _ _ h => h) (Or.inl ⟨by rfl, ?_⟩) ?_
          rotate_left
          · (intro w; go_simp; try with_reducible rfl)
          try simp only [Act.put, List.setIfInBounds_toArray, List.set_cons_zero, List.set_cons_succ]
          refine wpAny_done (by kernel_rfl) ?_ _
          go_wp2_with fail
          exact ⟨⟨i + 1, t, SP3, SR3, by omega, by simp, by have := KP.b; push_cast; omega, hKr.out, h3.below B7, B3.trans (B7.mono B3.size)⟩, by simp only [intOf]; omega⟩
        · skip
          go_simp
          refine hK _ _ ?_
          clear hK K
          try simp only [Act.put, List.setIfInBounds_toArray, List.set_cons_zero, List.set_cons_succ]
          refine wpAny_take (i := 26) (oi := ⟨_, _, _, _, _, _⟩) (v := ?_) rfl (by kernel_rfl) (by kernel_rfl) (by kernel_rfl) (fun _ _ _ h => h) (Or.inl ⟨by rfl, ?_⟩) ?_
          rotate_left
          · (intro w; go_simp; try with_reducible rfl)
          try simp only [Act.put, List.setIfInBounds_toArray, List.set_cons_zero, List.set_cons_succ]
          refine wpAny_take (i := 27) (oi := ⟨_, _, _, _, _, _⟩) (v := ?_) rfl (by kernel_rfl) (by kernel_rfl) (by kernel_rfl) (fun _ _ _ h => h) (Or.inl ⟨by rfl, ?_⟩) ?_
          rotate_left
          · (intro w; go_simp; try with_reducible rfl)
          try simp only [Act.put, List.setIfInBounds_toArray, List.set_cons_zero, List.set_cons_succ]
          refine wpAny_ready (rs := [20, 28]) (by kernel_rfl) (by simp) ?_
          refine AllReady.cons (o := ⟨_, _, _, _, _, _⟩) rfl (fun K hK => ?_) (AllReady.cons (o := ⟨_, _, _, _, _, _⟩) rfl (fun K hK => ?_) AllReady.nil)
          · skip
            go_simp
            refine (bfree_any bb SP3 t hf3 _ (h3.p.below B6)).mono ?_
            rintro e w7 ⟨rfl, hw7⟩
            rw [hKr.out]
            have B7 : Below w3.heap.size w3 w7 := B6.trans (hw7.mono B6.size)
            have HR7 := HR5.below B7
            have p0' := HR7.cells.1
            have p4' := HR7.led.cells.2.2.2.2.1
            (try (refine hK _ _ ?_))
            clear hK K
            try simp only [Act.put, List.setIfInBounds_toArray, List.set_cons_zero, List.set_cons_succ]
            refine wpAny_ready (rs := [28]) (by kernel_rfl) (by simp) ?_
            refine AllReady.cons (o := ⟨_, _, _, _, _, _⟩) rfl (fun K hK => ?_) AllReady.nil
            go_simp
            refine hK _ _ ?_
            clear hK K
            try simp only [Act.put, List.setIfInBounds_toArray, List.set_cons_zero, List.set_cons_succ]
            refine wpAny_take (i := 29) (oi := ⟨_, _, _, _, _, _⟩) (v := ?_) rfl (by kernel_rfl) (by kernel_rfl) (by kernel_rfl) (fun _ _ _ h => h) (Or.inl ⟨by rfl, ?_⟩) ?_
            rotate_left
            · (intro w; go_simp; try with_reducible rfl)
            try simp only [Act.put, List.setIfInBounds_toArray, List.set_cons_zero, List.set_cons_succ]
            refine wpAny_take (i := 30) (oi := ⟨_, _, _, _, _, _⟩) (v := ?_) rfl (by kernel_rfl) (by kernel_rfl) (by kernel_rfl) (fun _ _ _ h => h) (Or.inl ⟨by rfl, ?_⟩) ?_
            rotate_left
            · (intro w; go_simp; try with_reducible rfl)
            try simp only [Act.put, List.setIfInBounds_toArray, List.set_cons_zero, List.set_cons_succ]
            refine wpAny_take (i := 31) (oi := ⟨_, _, _, _, _, _⟩) (v := ?_) rfl (by kernel_rfl) (by kernel_rfl) (by kernel_rfl) (fun _ _ _ h => h) (Or.inl ⟨by rfl, ?_⟩) ?_
            rotate_left
            · (intro w; go_simp; try with_reducible rfl)
            try simp only [Act.put, List.setIfInBounds_toArray, List.set_cons_zero, List.set_cons_succ]
            refine wpAny_take (i := 32) (oi := ⟨_, _, _, _, _, _⟩) (v := ?_) rfl (by kernel_rfl) (by kernel_rfl) (by kernel_rfl) (fun _ _ _ h => h) (Or.inl ⟨by rfl, ?_⟩) ?_
            rotate_left
            · (intro w; go_simp; try with_reducible rfl)
            try simp only [Act.put, List.setIfInBounds_toArray, List.set_cons_zero, List.set_cons_succ]
            refine wpAny_done (by kernel_rfl) ?_ _
            go_wp2_with fail
            exact ⟨⟨i + 1, t, SP3, SR3, by omega, by simp, by have := KP.b; push_cast; omega, hKr.out, h3.below B7, B3.trans (B7.mono B3.size)⟩, by simp only [intOf]; omega⟩
          · skip
            go_simp
            refine hK _ _ ?_
            clear hK K
            try simp only [Act.put, List.setIfInBounds_toArray, List.set_cons_zero, List.set_cons_succ]
            refine wpAny_take (i := 29) (oi := ⟨_, _, _, _, _, _⟩) (v := ?_) rfl (by kernel_rfl) (by kernel_rfl) (by kernel_rfl) (fun _ _ _ h => h) (Or.inl ⟨by rfl, ?_⟩) ?_
            rotate_left
            · (intro w; go_simp; try with_reducible rfl)
            try simp only [Act.put, List.setIfInBounds_toArray, List.set_cons_zero, List.set_cons_succ]
            refine wpAny_take (i := 30) (oi := ⟨_, _, _, _, _, _⟩) (v := ?_) rfl (by kernel_rfl) (by kernel_rfl) (by kernel_rfl) (fun _ _ _ h => h) (Or.inl ⟨by rfl, ?_⟩) ?_
            rotate_left
            · (intro w; go_simp; try with_reducible rfl)
            try simp only [Act.put, List.setIfInBounds_toArray, List.set_cons_zero, List.set_cons_succ]
            refine wpAny_ready (rs := [20]) (by kernel_rfl) (by simp) ?_
            refine AllReady.cons (o := ⟨_, _, _, _, _, _⟩) rfl (fun K hK => ?_) AllReady.nil
            go_simp
            refine (bfree_any bb SP3 t hf3 _ (h3.p.below B6)).mono ?_
            rintro e w7 ⟨rfl, hw7⟩
            rw [hKr.out]
            have B7 : Below w3.heap.size w3 w7 := B6.trans (hw7.mono B6.size)
            have HR7 := HR5.below B7
            have p0' := HR7.cells.1
            have p4' := HR7.led.cells.2.2.2.2.1
            (try (refine hK _ _ ?_))
            clear hK K
            try simp only [Act.put, List.setIfInBounds_toArray, List.set_cons_zero, List.set_cons_succ]
            refine wpAny_take (i := 31) (oi := ⟨_, _, _, _, _, _⟩) (v := ?_) rfl (by kernel_rfl) (by kernel_rfl) (by kernel_rfl) (fun _ _ _ h => h) (Or.inl ⟨by rfl, ?_⟩) ?_
            rotate_left
            · (intro w; go_simp; try with_reducible rfl)
            try simp only [Act.put, List.setIfInBounds_toArray, List.set_cons_zero, List.set_cons_succ]
            refine wpAny_take (i := 32) (oi := ⟨_, _, _, _, _, _⟩) (v := ?_) rfl (by kernel_rfl) (by kernel_rfl) (by kernel_rfl) (fun _ _ _ h => h) (Or.inl ⟨by rfl, ?_⟩) ?_
            rotate_left
            · (intro w; go_simp; try with_reducible rfl)
            try simp only [Act.put, List.setIfInBounds_toArray, List.set_cons_zero, List.set_cons_succ]
            refine wpAny_done (by kernel_rfl) ?_ _
            go_wp2_with fail
            exact ⟨⟨i + 1, t, SP3, SR3, by omega, by simp, by have := KP.b; push_cast; omega, hKr.out, h3.below B7, B3.trans (B7.mono B3.size)⟩, by simp only [intOf]; omega⟩
      · skip
        go_simp
        refine hK _ _ ?_
        clear hK K
        try simp only [Act.put, List.setIfInBounds_toArray, List.set_cons_zero, List.set_cons_succ]
        refine wpAny_ready (rs := [10]) (by kernel_rfl) (by simp) ?_
        refine AllReady.cons (o := ⟨_, _, _, _, _, _⟩) rfl (fun K hK => ?_) AllReady.nil
        go_simp
        refine (mis_any bb SP3 t hf3 _ h3.p).mono ?_
        rintro e w4 ⟨ao4, g4, o4, c4, rfl, hM4, B4⟩
        have p1' := (HR5.below B4).cells.2.1
        (try (refine hK _ _ ?_))
        clear hK K
        try simp only [Act.put, List.setIfInBounds_toArray, List.set_cons_zero, List.set_cons_succ]
        refine wpAny_ready (rs := [15]) (by kernel_rfl) (by simp) ?_
        refine AllReady.cons (o := ⟨_, _, _, _, _, _⟩) rfl (fun K hK => ?_) AllReady.nil
        go_simp
        refine (msame_any _ _ _ _ _ _ _ _ _ t.L _ hM4 (HR5.row.below B4)).mono ?_
        rintro e w6 ⟨rfl, hw6⟩
        have B6 : Below w3.heap.size w3 w6 := B4.trans (hw6.mono B4.size)
        clear hM4
        have HR6 := HR5.below B6
        have p0 := HR6.cells.1
        have p4 := HR6.led.cells.2.2.2.2.1
        (try (refine hK _ _ ?_))
        clear hK K
        try simp only [Act.put, List.setIfInBounds_toArray, List.set_cons_zero, List.set_cons_succ]
        refine wpAny_take (i := 16) (oi := ⟨_, _, _, _, _, _⟩) (v := ?_) rfl (by kernel_rfl) (by kernel_rfl) (by kernel_rfl) (fun _ _ _ h => h) (Or.inl ⟨by rfl, ?_⟩) ?_
        rotate_left
        · (intro w; go_simp; try with_reducible rfl)
        try simp only [Act.put, List.setIfInBounds_toArray, List.set_cons_zero, List.set_cons_succ]
        refine wpAny_take (i := 17) (oi := ⟨_, _, _, _, _, _⟩) (v := ?_) rfl (by kernel_rfl) (by kernel_rfl) (by kernel_rfl) (fun _ _ _ h => h) (Or.inl ⟨by rfl, ?_⟩) ?_
        rotate_left
        · (intro w; go_simp; try with_reducible rfl)
        try simp only [Act.put, List.setIfInBounds_toArray, List.set_cons_zero, List.set_cons_succ]
        refine wpAny_take (i := 18) (oi := ⟨_, _, _, _, _, _⟩) (v := ?_) rfl (by kernel_rfl) (by kernel_rfl) (by kernel_rfl) (fun _ _ _ h => h) (Or.inl ⟨by rfl, ?_⟩) ?_
        rotate_left
        · (intro w; go_simp; try with_reducible rfl)
        try simp only [Act.put, List.setIfInBounds_toArray, List.set_cons_zero, List.set_cons_succ]
        refine wpAny_take (i := 19) (oi := ⟨_, _, _, _, _, _⟩) (v := ?_) rfl (by kernel_rfl) (by kernel_rfl) (by kernel_rfl) (fun _ _ _ h => h) (Or.inl ⟨by rfl, ?_⟩) ?_
        rotate_left
        · (intro w; go_simp; try with_reducible rfl)
        try simp only [Act.put, List.setIfInBounds_toArray, List.set_cons_zero, List.set_cons_succ]
        refine wpAny_take (i := 21) (oi := ⟨_, _, _, _, _, _⟩) (v := ?_) rfl (by kernel_rfl) (by kernel_rfl) (by kernel_rfl) (fun _ _ _ h => h) (Or.inl ⟨by rfl, ?_⟩) ?_
        rotate_left
        · (intro w; go_simp; try with_reducible rfl)
        try simp only [Act.put, List.setIfInBounds_toArray, List.set_cons_zero, List.set_cons_succ]
        refine wpAny_take (i := 22) (oi := ⟨_, _, _, _, _, _⟩) (v := ?_) rfl (by kernel_rfl) (by kernel_rfl) (by kernel_rfl) (fun _ _ _ h => h) (Or.inl ⟨by rfl, ?_⟩) ?_
        rotate_left
        · (intro w; go_simp; try with_reducible rfl)
        try simp only [Act.put, List.setIfInBounds_toArray, List.set_cons_zero, List.set_cons_succ]
        refine wpAny_take (i := 23) (oi := ⟨_, _, _, _, _, _⟩) (v := ?_) rfl (by kernel_rfl) (by kernel_rfl) (by kernel_rfl) (fun _ _ _ h => h) (Or.inl ⟨by rfl, ?_⟩) ?_
        rotate_left
        · (intro w; go_simp; try with_reducible rfl)
        try simp only [Act.put, List.setIfInBounds_toArray, List.set_cons_zero, List.set_cons_succ]
        refine wpAny_take (i := 24) (oi := ⟨_, _, _, _, _, _⟩) (v := ?_) rfl (by kernel_rfl) (by kernel_rfl) (by kernel_rfl) (fun _ _ _ h => h) (Or.inl ⟨by rfl, ?_⟩) ?_
        rotate_left
        · (intro w; go_simp; try with_reducible rfl)
        try simp only [Act.put, List.setIfInBounds_toArray, List.set_cons_zero, List.set_cons_succ]
        refine wpAny_ready (rs := [20, 25]) (by kernel_rfl) (by simp) ?_
        refine AllReady.cons (o := ⟨_, _, _, _, _, _⟩) rfl (fun K hK => ?_) (AllReady.cons (o := ⟨_, _, _, _, _, _⟩) rfl (fun K hK => ?_) AllReady.nil)
        · skip
          go_simp
          refine (bfree_any bb SP3 t hf3 _ (h3.p.below B6)).mono ?_
          rintro e w7 ⟨rfl, hw7⟩
          rw [hKr.out]
          have B7 : Below w3.heap.size w3 w7 := B6.trans (hw7.mono B6.size)
          have HR7 := HR5.below B7
          have p0' := HR7.cells.1
          have p4' := HR7.led.cells.2.2.2.2.1
          (try (refine hK _ _ ?_))
          clear hK K
          try simp only [Act.put, List.setIfInBounds_toArray, List.set_cons_zero, List.set_cons_succ]
          refine wpAny_ready (rs := [25]) (by kernel_rfl) (by simp) ?_
          refine AllReady.cons (o := ⟨_, _, _, _, _, _⟩) rfl (fun K hK => ?_) AllReady.nil
          go_simp
          refine hK _ _ ?_
          clear hK K
          try simp only [Act.put, List.setIfInBounds_toArray, List.set_cons_zero, List.set_cons_succ]
          refine wpAny_take (i := 26) (oi := ⟨_, _, _, _, _, _⟩) (v := ?_) rfl (by kernel_rfl) (by kernel_rfl) (by kernel_rfl) (fun _ _ _ h => h) (Or.inl ⟨by rfl, ?_⟩) ?_
          rotate_left
          · (intro w; go_simp; try with_reducible rfl)
          try simp only [Act.put, List.setIfInBounds_toArray, List.set_cons_zero, List.set_cons_succ]
          refine wpAny_take (i := 27) (oi := ⟨_, _, _, _, _, _⟩) (v := ?_) rfl (by kernel_rfl) (by kernel_rfl) (by kernel_rfl) (fun _ _ _ h => h) (Or.inl ⟨by rfl, ?_⟩) ?_
          rotate_left
          · (intro w; go_simp; try with_reducible rfl)
          try simp only [Act.put, List.setIfInBounds_toArray, List.set_cons_zero, List.set_cons_succ]
          refine wpAny_ready (rs := [28]) (by kernel_rfl) (by simp) ?_
          refine AllReady.cons (o := ⟨_, _, _, _, _, _⟩) rfl (fun K hK => ?_) AllReady.nil
          go_simp
          refine hK _ _ ?_
          clear hK K
          try simp only [Act.put, List.setIfInBounds_toArray, List.set_cons_zero, List.set_cons_succ]
          refine wpAny_take (i := 29) (oi := ⟨_, _, _, _, _, _⟩) (v := ?_) rfl (by kernel_rfl) (by kernel_rfl) (by kernel_rfl) (fun _ _ _ h => h) (Or.inl ⟨by rfl, ?_⟩) ?_
          rotate_left
          · (intro w; go_simp; try with_reducible rfl)
          try simp only [Act.put, List.setIfInBounds_toArray, List.set_cons_zero, List.set_cons_succ]
          refine wpAny_take (i := 30) (oi := ⟨_, _, _, _, _, _⟩) (v := ?_) rfl (by kernel_rfl) (by kernel_rfl) (by kernel_rfl) (fun _ _ _ h => h) (Or.inl ⟨by rfl, ?_⟩) ?_
          rotate_left
          · (intro w; go_simp; try with_reducible rfl)
          try simp only [Act.put, List.setIfInBounds_toArray, List.set_cons_zero, List.set_cons_succ]
          refine wpAny_take (i := 31) (oi := ⟨_, _, _, _, _, _⟩) (v := ?_) rfl (by kernel_rfl) (by kernel_rfl) (by kernel_rfl) (fun _ _ _ h => h) (Or.inl ⟨by rfl, ?_⟩) ?_
          rotate_left
          · (intro w; go_simp; try with_reducible rfl)
          try simp only [Act.put, List.setIfInBounds_toArray, List.set_cons_zero, List.set_cons_succ]
          refine wpAny_take (i := 32) (oi := ⟨_, _, _, _, _, _⟩) (v := ?_) rfl (by kernel_rfl) (by kernel_rfl) (by kernel_rfl) (fun _ _ _ h => h) (Or.inl ⟨by rfl, ?_⟩) ?_
          rotate_left
          · (intro w; go_simp; try with_reducible rfl)
          try simp only [Act.put, List.setIfInBounds_toArray, List.set_cons_zero, List.set_cons_succ]
          refine wpAny_done (by kernel_rfl) ?_ _
          go_wp2_with fail
          exact ⟨⟨i + 1, t, SP3, SR3, by omega, by simp, by have := KP.b; push_cast; omega, hKr.out, h3.below B7, B3.trans (B7.mono B3.size)⟩, by simp only [intOf]; omega⟩
        · skip
          go_simp
          refine hK _ _ ?_
          clear hK K
          try simp only [Act.put, List.setIfInBounds_toArray, List.set_cons_zero, List.set_cons_succ]
          refine wpAny_take (i := 26) (oi := ⟨_, _, _, _, _, _⟩) (v := ?_) rfl (by kernel_rfl) (by kernel_rfl) (by kernel_rfl) (fun _ _ _ h => h) (Or.inl ⟨by rfl, ?_⟩) ?_
          rotate_left
          · (intro w; go_simp; try with_reducible rfl)
          try simp only [Act.put, List.setIfInBounds_toArray, List.set_cons_zero, List.set_cons_succ]
          refine wpAny_take (i := 27) (oi := ⟨_, _, _, _, _, _⟩) (v := ?_) rfl (by kernel_rfl) (by kernel_rfl) (by kernel_rfl) (fun _ _ _ h => h) (Or.inl ⟨by rfl, ?_⟩) ?_
          rotate_left
          · (intro w; go_simp; try with_reducible rfl)
          try simp only [Act.put, List.setIfInBounds_toArray, List.set_cons_zero, List.set_cons_succ]
          refine wpAny_ready (rs := [20, 28]) (by kernel_rfl) (by simp) ?_
          refine AllReady.cons (o := ⟨_, _, _, _, _, _⟩) rfl (fun K hK => ?_) (AllReady.cons (o := ⟨_, _, _, _, _, _⟩) rfl (fun K hK => ?_) AllReady.nil)
          · skip
            go_simp
            refine (bfree_any bb SP3 t hf3 _ (h3.p.below B6)).mono ?_
            rintro e w7 ⟨rfl, hw7⟩
            rw [hKr.out]
            have B7 : Below w3.heap.size w3 w7 := B6.trans (hw7.mono B6.size)
            have HR7 := HR5.below B7
            have p0' := HR7.cells.1
            have p4' := HR7.led.cells.2.2.2.2.1
            (try (refine hK _ _ ?_))
            clear hK K
            try simp only [Act.put, List.setIfInBounds_toArray, List.set_cons_zero, List.set_cons_succ]
            refine wpAny_ready (rs := [28]) (by kernel_rfl) (by simp) ?_
            refine AllReady.cons (o := ⟨_, _, _, _, _, _⟩) rfl (fun K hK => ?_) AllReady.nil
            go_simp
            refine hK _ _ ?_
            clear hK K
            try simp only [Act.put, List.setIfInBounds_toArray, List.set_cons_zero, List.set_cons_succ]
            refine wpAny_take (i := 29) (oi := ⟨_, _, _, _, _, _⟩) (v := ?_) rfl (by kernel_rfl) (by kernel_rfl) (by kernel_rfl) (fun _ _ _ h => h) (Or.inl ⟨by rfl, ?_⟩) ?_
            rotate_left
            · (intro w; go_simp; try with_reducible rfl)
            try simp only [Act.put, List.setIfInBounds_toArray, List.set_cons_zero, List.set_cons_succ]
            refine wpAny_take (i := 30) (oi := ⟨_, _, _, _, _, _⟩) (v := ?_) rfl (by kernel_rfl) (by kernel_rfl) (by kernel_rfl) (fun _ _ _ h => h) (Or.inl ⟨by rfl, ?_⟩) ?_
            rotate_left
            · (intro w; go_simp; try with_reducible rfl)
            try simp only [Act.put, List.setIfInBounds_toArray, List.set_cons_zero, List.set_cons_succ]
            refine wpAny_take (i := 31) (oi := ⟨_, _, _, _, _, _⟩) (v := ?_) rfl (by kernel_rfl) (by kernel_rfl) (by kernel_rfl) (fun _ _ _ h => h) (Or.inl ⟨by rfl, ?_⟩) ?_
            rotate_left
            · (intro w; go_simp; try with_reducible rfl)
            try simp only [Act.put, List.setIfInBounds_toArray, List.set_cons_zero, List.set_cons_succ]
            refine wpAny_take (i := 32) (oi := ⟨_, _, _, _, _, _⟩) (v := ?_) rfl (by kernel_rfl) (by kernel_rfl) (by kernel_rfl) (fun _ _ _ h => h) (Or.inl ⟨by rfl, ?_⟩) ?_
            rotate_left
            · (intro w; go_simp; try with_reducible rfl)
            try simp only [Act.put, List.setIfInBounds_toArray, List.set_cons_zero, List.set_cons_succ]
            refine wpAny_done (by kernel_rfl) ?_ _
            go_wp2_with fail
            exact ⟨⟨i + 1, t, SP3, SR3, by omega, by simp, by have := KP.b; push_cast; omega, hKr.out, h3.below B7, B3.trans (B7.mono B3.size)⟩, by simp only [intOf]; omega⟩
          · skip
            go_simp
            refine hK _ _ ?_
            clear hK K
            try simp only [Act.put, List.setIfInBounds_toArray, List.set_cons_zero, List.set_cons_succ]
            refine wpAny_take (i := 29) (oi := ⟨_, _, _, _, _, _⟩) (v := ?_) rfl (by kernel_rfl) (by kernel_rfl) (by kernel_rfl) (fun _ _ _ h => h) (Or.inl ⟨by rfl, ?_⟩) ?_
            rotate_left
            · (intro w; go_simp; try with_reducible rfl)
            try simp only [Act.put, List.setIfInBounds_toArray, List.set_cons_zero, List.set_cons_succ]
            refine wpAny_take (i := 30) (oi := ⟨_, _, _, _, _, _⟩) (v := ?_) rfl (by kernel_rfl) (by kernel_rfl) (by kernel_rfl) (fun _ _ _ h => h) (Or.inl ⟨by rfl, ?_⟩) ?_
            rotate_left
            · (intro w; go_simp; try with_reducible rfl)
            try simp only [Act.put, List.setIfInBounds_toArray, List.set_cons_zero, List.set_cons_succ]
            refine wpAny_ready (rs := [20]) (by kernel_rfl) (by simp) ?_
            refine AllReady.cons (o := ⟨_, _, _, _, _, _⟩) rfl (fun K hK => ?_) AllReady.nil
            go_simp
            refine (bfree_any bb SP3 t hf3 _ (h3.p.below B6)).mono ?_
            rintro e w7 ⟨rfl, hw7⟩
            rw [hKr.out]
            have B7 : Below w3.heap.size w3 w7 := B6.trans (hw7.mono B6.size)
            have HR7 := HR5.below B7
            have p0' := HR7.cells.1
            have p4' := HR7.led.cells.2.2.2.2.1
            (try (refine hK _ _ ?_))
            clear hK K
            try simp only [Act.put, List.setIfInBounds_toArray, List.set_cons_zero, List.set_cons_succ]
            refine wpAny_take (i := 31) (oi := ⟨_, _, _, _, _, _⟩) (v := ?_) rfl (by kernel_rfl) (by kernel_rfl) (by kernel_rfl) (fun _ _ _ h => h) (Or.inl ⟨by rfl, ?_⟩) ?_
            rotate_left
            · (intro w; go_simp; try with_reducible rfl)
            try simp only [Act.put, List.setIfInBounds_toArray, List.set_cons_zero, List.set_cons_succ]
            refine wpAny_take (i := 32) (oi := ⟨_, _, _, _, _, _⟩) (v := ?_) rfl (by kernel_rfl) (by kernel_rfl) (by kernel_rfl) (fun _ _ _ h => h) (Or.inl ⟨by rfl, ?_⟩) ?_
            rotate_left
            · (intro w; go_simp; try with_reducible rfl)
            try simp only [Act.put, List.setIfInBounds_toArray, List.set_cons_zero, List.set_cons_succ]
            refine wpAny_done (by kernel_rfl) ?_ _
            go_wp2_with fail
            exact ⟨⟨i + 1, t, SP3, SR3, by omega, by simp, by have := KP.b; push_cast; omega, hKr.out, h3.below B7, B3.trans (B7.mono B3.size)⟩, by simp only [intOf]; omega⟩
    · have h1 : decide ((i : Int) < (n : Int)) = false := decide_eq_false hin
      go_wp2_with fail
      refine (booked_any _).mono ?_
      rintro e w3 ⟨rfl, B3⟩
      have B4 := hB.trans (B3.mono hB.size)
      go_wp2_with fail
      go_ret
      exact ⟨rfl, B4⟩
end Go.Proofs.Ytpaalpnoppblaaa

/-! LBDoes -/
namespace Go.Proofs.Ytpaalpnoppblaaa.booksDoes
open Go.ChangeShapes Go.WideShapes Go.ChangeAt Go.RowKit Go.Joins
set_option linter.unusedVariables false

theorem own : ownKnob Try.prog.godebug = none := by kernel_rfl
theorem laidOut : laidOutB Try.prog = true := by kernel_rfl
theorem word_of {x : Int} (h : (Lit.int .u64 x).wf = true) : 0 ≤ x ∧ x ≤ 18446744073709551615 := by
  simp [Lit.wf, IntKind.min, IntKind.max, IntKind.signed, IntKind.bits] at h
  exact ⟨by omega, by omega⟩
theorem int_of {x : Int} (h : (Lit.int .i64 x).wf = true) : -9223372036854775808 ≤ x ∧ x ≤ 9223372036854775807 := by
  simp [Lit.wf, IntKind.min, IntKind.max, IntKind.signed, IntKind.bits] at h
  exact ⟨by omega, by omega⟩

set_option maxRecDepth 100000 in
theorem lifted (os : Os) (started : os.Started) (H : Type) (enc : TypeId × Value → H) :
    ReturnsInHanded {} Try.checked os 3 .any (Rows.booksDoesSpec.pre6 enc Try.prog Try.f3 Rows.booksDoesRow.domain false) (Rows.booksDoesSpec.post enc Try.prog Try.f3 false true false false) := by
  refine returnsInHanded_of_change (C := Try.checked) own started (by kernel_rfl) Try.func3
    (ChangeSpec.witness6 (enc := enc) (C := Try.checked) false ⟨#[], #[.int .i64 0, .int .u64 0, .int .i64 0, .slice none 0 0], []⟩ 8 (by kernel_rfl) (by kernel_rfl) (by kernel_rfl) (by kernel_rfl)) ?_
  intro W base args ds gs before hval0 hW hcnd _
  have hval : ∀ (j : Nat) t v, Try.f3.params[j]? = some t → args[j]? = some v → Value.okWide Try.prog W .any base t v := hval0
  have hW' := hW
  obtain ⟨p, q, hA0, hV, rfl, hfz, hnd⟩ := hW
  have hA : DataW.TrodAll enc Try.prog W 0 (fun _ => true) true Try.f3.params.toList args.toList ds p := hA0
  rw [Try.params3] at hA hval
  obtain ⟨v0, vs0, d0, ds0, p0, q0, hargs, rfl, rfl, h0, r0⟩ := trodAll_cons hA
  obtain ⟨v1, vs1, d1, ds1, p1, q1, rfl, rfl, rfl, h1, r1⟩ := trodAll_cons r0
  obtain ⟨v2, vs2, d2, ds2, p2, q2, rfl, rfl, rfl, h2, r2⟩ := trodAll_cons r1
  obtain ⟨v3, vs3, d3, ds3, p3, q3, rfl, rfl, rfl, h3, r3⟩ := trodAll_cons r2
  obtain ⟨rfl, rfl, rfl⟩ := trodAll_nil r3
  obtain rfl : args = #[v0, v1, v2, v3] := by cases args; simp_all
  obtain ⟨rfl, rfl⟩ := trodVars_none hV
  obtain ⟨a0, rfl, rfl, rfl, w0⟩ := open_int Try.underlying3 (hval 0 3 v0 rfl rfl) h0
  obtain ⟨a1, rfl, rfl, rfl, w1⟩ := open_int Try.underlying22 (hval 1 22 v1 rfl rfl) h1
  obtain ⟨a2, rfl, rfl, rfl, w2⟩ := open_int Try.underlying3 (hval 2 3 v2 rfl rfl) h2
  have k3 := h3
  have lt3 : ∀ x ∈ p3, x.block < W.heap.size := by obtain ⟨m, hm⟩ := k3; exact DataW.trod_lt m _ _ _ hm
  obtain ⟨ao_3, n_3, c_3, Z_3, rfl, hz3⟩ := open_steps (hval 3 23 v3 rfl rfl) h3
  clear hA0 hval0
  refine (bdoes_walk a0 a1 a2 ao_3 n_3 c_3 Z_3 (int_of w0).1 (int_of w0).2 (word_of w1).1 (word_of w1).2 (int_of w2).1 (int_of w2).2 W hz3).mono fun e W' ⟨he, bel⟩ => ?_
  subst he
  exact ⟨_, rfl, _, _, _, [], _, [], hW', trodAll_mk1 (shut_bool Try.underlying4 _), (trodAll_cons_mk (shut_int Try.underlying3 w0) (trodAll_cons_mk (shut_int Try.underlying22 w1) (trodAll_cons_mk (shut_int Try.underlying3 w2) (trodAll_cons_mk (Below.trod laidOut (by kernel_rfl) (of_decide_eq_true (by kernel_rfl)) k3 bel lt3) trodAll_mk0)))), rfl, bel.frame _, fun h => by cases h⟩

theorem over : Rows.booksDoesRow.holds Try.pinned (OpenSpec.ofChange Rows.booksDoesSpec) :=
  OpenClaim.holds_of_wide 3 Try.f3 rfl rfl rfl rfl rfl rfl rfl ⟨rfl, rfl, rfl, rfl, rfl⟩ rfl rfl rfl rfl rfl (by kernel_rfl) Try.func3 (by kernel_rfl)
    (of_decide_eq_true (by kernel_rfl)) (by unfold Func.isWrapper; first | (rw [if_pos (by decide +kernel)]; kernel_rfl) | (rw [if_neg (by decide +kernel)]; exact ⟨rfl, rfl⟩))
    (fun os started H enc _ => lifted os started H enc)
theorem proved : Rows.BooksDoesSaid := over
#print axioms proved
end Go.Proofs.Ytpaalpnoppblaaa.booksDoes
