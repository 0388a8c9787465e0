/-
  The document's rows, entered in a ledger. No conditions.
-/
import Derived.Test.YtjjojbmpjkcmaaaV21
namespace Go.Proofs.Ytjjojbmpjkcmaaa
open Go.RowKit Go.Maps
set_option linter.unusedVariables false
def s0 : Lg := ⟨2, 7, 7, 7, 0, []⟩
def s1 : Lg := ⟨2, 7, 8, 7, 5, [⟨7, 0, 100, 5⟩]⟩
def s2 : Lg := ⟨2, 7, 9, 7, 6, [⟨7, 0, 100, 5⟩, ⟨8, 0, 200, 6⟩]⟩
def s3 : Lg := ⟨2, 7, 9, 7, 6, [⟨7, 0, 100, 5⟩]⟩
def s4 : Lg := ⟨2, 7, 10, 7, 6, [⟨7, 0, 100, 5⟩, ⟨9, 1, 1, 6⟩]⟩
theorem new_ok (room first : Int) (h0 : 1 ≤ room) (h1 : room ≤ 4096) (f0 : 0 ≤ first) (f1 : first ≤ 18446744073709551615) : (⟨room, first, first, first, 0, []⟩ : Lg).ok :=
  ⟨h0, h1, by show ((0 : Nat) : Int) ≤ room; omega, f0, Int.le_refl _, Int.le_refl _, f1, List.Pairwise.nil, fun p hp => (List.not_mem_nil hp).elim, List.Pairwise.nil, fun p hp => (List.not_mem_nil hp).elim, Int.le_refl _, by show (0 : Int) ≤ 1099511627776; omega, fun p hp => (List.not_mem_nil hp).elim⟩
theorem ok0 : s0.ok := new_ok 2 7 (by omega) (by omega) (by omega) (by omega)
theorem e1 : sentL s0 0 100 5 = s1 := rfl
theorem e2 : sentL s1 0 200 6 = s2 := rfl
theorem e2' : sentL s2 0 1 6 = s2 := rfl
theorem e3 : takenL s2 8 = s3 := rfl
theorem e3' : takenL s3 8 = s3 := rfl
theorem e3'' : takenL s3 9 = s3 := rfl
theorem e4 : sentL s3 1 1 6 = s4 := rfl
theorem ok1 : s1.ok := e1 ▸ sent_ok ok0 _ _ _
theorem ok2 : s2.ok := e2 ▸ sent_ok ok1 _ _ _
theorem ok3 : s3.ok := e3 ▸ taken_ok ok2 _
theorem ok4 : s4.ok := e4 ▸ sent_ok ok3 _ _ _
section
variable (lb mb : Nat) (w : World)
theorem c1 (H : Led w lb mb s0) : Calls Try.prog 9 #[.pointer (some ⟨lb, 0, none⟩), .int .i64 0, .int .i64 100, .int .i64 5] w fun e w' => e = .returned (.tuple #[.int .u64 7, .int .i64 0]) ∧ Led w' lb mb s1 ∧ Far [lb, mb] w w' := send_any lb mb s0 ok0 0 100 5 w H
theorem c2 (H : Led w lb mb s1) : Calls Try.prog 9 #[.pointer (some ⟨lb, 0, none⟩), .int .i64 0, .int .i64 200, .int .i64 6] w fun e w' => e = .returned (.tuple #[.int .u64 8, .int .i64 0]) ∧ Led w' lb mb s2 ∧ Far [lb, mb] w w' := send_any lb mb s1 ok1 0 200 6 w H
theorem c3 (H : Led w lb mb s2) : Calls Try.prog 9 #[.pointer (some ⟨lb, 0, none⟩), .int .i64 0, .int .i64 1, .int .i64 6] w fun e w' => e = .returned (.tuple #[.int .u64 0, .int .i64 2]) ∧ Led w' lb mb s2 ∧ Far [lb, mb] w w' := send_any lb mb s2 ok2 0 1 6 w H
theorem c4 (H : Led w lb mb s2) : Calls Try.prog 11 #[.pointer (some ⟨lb, 0, none⟩), .int .u64 8] w fun e w' => e = .returned (.tuple #[.agg #[.int .u64 8, .int .i64 0, .int .i64 200, .int .i64 6], .int .i64 0]) ∧ Led w' lb mb s3 ∧ Far [lb, mb] w w' := take_any lb mb s2 ok2 8 (by omega) (by omega) w H
theorem c5 (H : Led w lb mb s3) : Calls Try.prog 11 #[.pointer (some ⟨lb, 0, none⟩), .int .u64 8] w fun e w' => e = .returned (.tuple #[.agg #[.int .u64 0, .int .i64 0, .int .i64 0, .int .i64 0], .int .i64 4]) ∧ Led w' lb mb s3 ∧ Far [lb, mb] w w' := take_any lb mb s3 ok3 8 (by omega) (by omega) w H
theorem c6 (H : Led w lb mb s3) : Calls Try.prog 11 #[.pointer (some ⟨lb, 0, none⟩), .int .u64 9] w fun e w' => e = .returned (.tuple #[.agg #[.int .u64 0, .int .i64 0, .int .i64 0, .int .i64 0], .int .i64 3]) ∧ Led w' lb mb s3 ∧ Far [lb, mb] w w' := take_any lb mb s3 ok3 9 (by omega) (by omega) w H
theorem c7 (H : Led w lb mb s3) : Calls Try.prog 9 #[.pointer (some ⟨lb, 0, none⟩), .int .i64 1, .int .i64 1, .int .i64 6] w fun e w' => e = .returned (.tuple #[.int .u64 9, .int .i64 0]) ∧ Led w' lb mb s4 ∧ Far [lb, mb] w w' := send_any lb mb s3 ok3 1 1 6 w H
theorem c8 (H : Led w lb mb s4) : Calls Try.prog 14 #[.pointer (some ⟨lb, 0, none⟩), .int .i64 15, .int .i64 10] w fun e w' => ∃ v, e = .returned v ∧ w'.ownsRow w.heap.size 36 4 v 1 (pcs [⟨7, 0, 100, 5⟩]) ∧ (∃ o, Led w' lb mb ⟨2, 7, 10, o, 6, [⟨9, 1, 1, 6⟩]⟩ ∧ (⟨2, 7, 10, o, 6, [⟨9, 1, 1, 6⟩]⟩ : Lg).ok) ∧ Far [lb, mb] w w' := expire_any lb mb s4 ok4 15 10 (by omega) (by omega) (by omega) (by omega) w H
theorem c9 (w : World) : Calls Try.prog 11 #[.pointer none, .int .u64 7] w fun e w' => e = .returned (.tuple #[.agg #[.int .u64 0, .int .i64 0, .int .i64 0, .int .i64 0], .int .i64 5]) ∧ Below w.heap.size w w' := by
  have H := Heap.nil w
  go_enter Try.func11, Try.ntmps11
  go_wp2_with (first | ((first | ((with_reducible refine at_plain ?_); intro K hK) | go_guarded); first | ((with_reducible refine at_ld ?_); first | (refine wpH_ldA (ty := 36) rfl rfl H (by repeat (first | exact Found.here | apply Found.there)) (by exact row36) ?_) | (refine wpH_ldA (ty := 32) rfl rfl H (by repeat (first | exact Found.here | apply Found.there)) (by exact row32) ?_) | (refine wpH_ld1 (ty := 3) rfl rfl H (by repeat (first | exact Found.here | apply Found.there)) one3 (by rfl) ?_) | (refine wpH_ld1 (ty := 4) rfl rfl H (by repeat (first | exact Found.here | apply Found.there)) one4 (by rfl) ?_) | (refine wpH_ld1 (ty := 25) rfl rfl H (by repeat (first | exact Found.here | apply Found.there)) one25 (by rfl) ?_) | (refine wpH_ld1 (ty := 22) rfl rfl H (by repeat (first | exact Found.here | apply Found.there)) one22 (by rfl) ?_) | (refine wpH_ld1 (ty := 53) rfl rfl H (by repeat (first | exact Found.here | apply Found.there)) one53 (by rfl) ?_)) | ((with_reducible refine at_st ?_); first | (refine wpH_st1 (ty := 3) (v := .int _ _) rfl rfl rfl rfl rfl H one3 (by repeat (first | exact Found.here | apply Found.there)) (by repeat (first | exact SetAt.z | apply SetAt.s)) (by repeat (first | exact Turned.here | apply Turned.there)) ?_; clear H; intro wN H) | (refine wpH_st1 (ty := 4) (v := .int _ _) rfl rfl rfl rfl rfl H one4 (by repeat (first | exact Found.here | apply Found.there)) (by repeat (first | exact SetAt.z | apply SetAt.s)) (by repeat (first | exact Turned.here | apply Turned.there)) ?_; clear H; intro wN H) | (refine wpH_st1 (ty := 25) (v := .int _ _) rfl rfl rfl rfl rfl H one25 (by repeat (first | exact Found.here | apply Found.there)) (by repeat (first | exact SetAt.z | apply SetAt.s)) (by repeat (first | exact Turned.here | apply Turned.there)) ?_; clear H; intro wN H) | (refine wpH_st1 (ty := 22) (v := .int _ _) rfl rfl rfl rfl rfl H one22 (by repeat (first | exact Found.here | apply Found.there)) (by repeat (first | exact SetAt.z | apply SetAt.s)) (by repeat (first | exact Turned.here | apply Turned.there)) ?_; clear H; intro wN H) | (refine wpH_st1 (ty := 53) (v := .int _ _) rfl rfl rfl rfl rfl H one53 (by repeat (first | exact Found.here | apply Found.there)) (by repeat (first | exact SetAt.z | apply SetAt.s)) (by repeat (first | exact Turned.here | apply Turned.there)) ?_; clear H; intro wN H) | (refine wpH_stA (ty := 36) rfl rfl rfl H (by repeat (first | exact Turned.here | apply Turned.there)) (by exact row36) (by rfl) (by kernel_rfl) ?_; clear H; intro wN H) | (refine wpH_stA (ty := 32) rfl rfl rfl H (by repeat (first | exact Turned.here | apply Turned.there)) (by exact row32) (by rfl) (by kernel_rfl) ?_; clear H; intro wN H)) | ((with_reducible refine at_al ?_); refine wpH_al rfl (by first | exact zero36 | exact zero32) H ?_; clear H; intro bN wN H) | ((with_reducible refine at_bx ?_); refine wpH_bxA rfl rfl H ?_; clear H; intro bN wN H)) | ((first | ((with_reducible refine at_plain ?_); intro K hK) | go_guarded); first | ((with_reducible refine at_ld ?_); refine wpL_ld rfl rfl HL H (by first | exact one3 | exact one4 | exact one25 | exact one22 | exact one53) (by rfl) ?_)) | ((first | ((with_reducible refine at_plain ?_); intro K hK) | go_guarded); ((with_reducible refine at_lk ?_); first | refine wpL_look rfl rfl rfl HL H (by omega) (by omega) ?_ | refine wpL_look1 rfl rfl rfl HL H (by omega) (by omega) ?_)))
  exact bodyPost_ret (results_H2 rfl H (by repeat (first | exact Found.here | apply Found.there)) (by first | exact row36 | exact row32) rfl rfl) rfl ⟨rfl, H.grown⟩
end
set_option maxHeartbeats 1000000 in
theorem entered_any (w : World) : Calls Try.prog 19 #[] w fun e w' => e = .returned (.bool true) ∧ Below w.heap.size w w' := by
  go_enter Try.func19, Try.ntmps19
  go_wp2_with fail
  refine (new_yes 2 7 (by omega) (by omega) (by omega) (by omega) _).mono ?_
  rintro e w1 ⟨lb, mb, rfl, H1, hl, hm, B1⟩
  have hS : ∀ b ∈ [lb, mb], w.heap.size ≤ b := by simp; omega
  go_wp2_with fail
  refine (c1 lb mb _ H1).mono ?_
  rintro e w2 ⟨rfl, H2, F⟩
  have B2 := Far.call B1 B1.size F hS
  clear F H1 B1
  go_wp2_with fail
  refine (c2 lb mb _ H2).mono ?_
  rintro e w3 ⟨rfl, H3, F⟩
  have B3 := Far.call B2 B2.size F hS
  clear F H2 B2
  go_wp2_with fail
  refine (c3 lb mb _ H3).mono ?_
  rintro e w4 ⟨rfl, H4, F⟩
  have B4 := Far.call B3 B3.size F hS
  clear F H3 B3
  go_wp2_with fail
  refine (c4 lb mb _ H4).mono ?_
  rintro e w5 ⟨rfl, H5, F⟩
  have B5 := Far.call B4 B4.size F hS
  clear F H4 B4
  have hl5 := H5.ob.lt
  have hm5 := H5.map.lt
  go_wp2_with fail
  have O := Ob.fresh w5 #[.int .u64 8, .int .i64 0, .int .i64 200, .int .i64 6] 36
  have L5 := H5.far ((Far.refl [] _).alloc (.cells #[.int .u64 8, .int .i64 0, .int .i64 200, .int .i64 6] 36)) (by simp) (by simp)
  have C5 : Below w.heap.size w (w5.alloc (.cells #[.int .u64 8, .int .i64 0, .int .i64 200, .int .i64 6] 36)) := B5.alloc B5.size _
  have hgl : w5.heap.size ∉ [lb, mb] := by simp; omega
  obtain ⟨g, hg⟩ : ∃ g, w5.heap.size = g := ⟨_, rfl⟩
  rw [hg] at hgl O ⊢
  clear hg hl5 hm5
  refine (c5 lb mb _ L5).mono ?_
  rintro e w6 ⟨rfl, H6, F⟩
  have B6 := Far.call C5 C5.size F hS
  replace O := O.far F hgl
  clear F L5 C5 H5 B5
  go_wp2_with fail
  have L6 := H6.far ((Far.refl [] _).alloc (.cells #[.int .u64 0, .int .i64 0, .int .i64 0, .int .i64 0] 36)) (by simp) (by simp)
  replace O := O.far ((Far.refl [] _).alloc (.cells #[.int .u64 0, .int .i64 0, .int .i64 0, .int .i64 0] 36)) (by simp)
  have C6 : Below w.heap.size w (w6.alloc (.cells #[.int .u64 0, .int .i64 0, .int .i64 0, .int .i64 0] 36)) := B6.alloc B6.size _
  refine (c6 lb mb _ L6).mono ?_
  rintro e w7 ⟨rfl, H7, F⟩
  have B7 := Far.call C6 C6.size F hS
  replace O := O.far F hgl
  clear F L6 C6 H6 B6
  go_wp2_with fail
  have L7 := H7.far ((Far.refl [] _).alloc (.cells #[.int .u64 0, .int .i64 0, .int .i64 0, .int .i64 0] 36)) (by simp) (by simp)
  replace O := O.far ((Far.refl [] _).alloc (.cells #[.int .u64 0, .int .i64 0, .int .i64 0, .int .i64 0] 36)) (by simp)
  have C7 : Below w.heap.size w (w7.alloc (.cells #[.int .u64 0, .int .i64 0, .int .i64 0, .int .i64 0] 36)) := B7.alloc B7.size _
  refine (c7 lb mb _ L7).mono ?_
  rintro e w8 ⟨rfl, H8, F⟩
  have B8 := Far.call C7 C7.size F hS
  replace O := O.far F hgl
  clear F L7 C7 H7 B7
  go_wp2_with fail
  refine (c8 lb mb _ H8).mono ?_
  rintro e w9 ⟨v, rfl, own, ⟨o, H9, ok9⟩, F⟩
  have B9 := Far.call B8 B8.size F hS
  replace O := O.far F hgl
  have h8 := B8.size
  clear F H8 B8
  go_wp2_with fail
  refine (c9 _).mono ?_
  rintro e w10 ⟨rfl, B⟩
  have L10 := H9.below B
  replace O := O.far (Far.of_below B) (by simp)
  have B10 := B9.trans (B.mono B9.size)
  have own10 := own_far own (Far.of_below B) (by simp)
  have g10 : g < w10.heap.size := O.lt
  have d0 : w10.cell? ⟨g, 0, none⟩ = some (.int .u64 8) := O.cell rfl
  have d1 : w10.cell? ⟨g, 1, none⟩ = some (.int .i64 0) := O.cell rfl
  have d2 : w10.cell? ⟨g, 2, none⟩ = some (.int .i64 200) := O.cell rfl
  have d3 : w10.cell? ⟨g, 3, none⟩ = some (.int .i64 6) := O.cell rfl
  clear O
  go_wp2_with fail
  have F10 : Far [] w10 ((w10.alloc (.cells #[.int .u64 0, .int .i64 0, .int .i64 0, .int .i64 0] 36)).alloc (.cells #[.int .u64 7, .int .i64 0, .int .i64 100, .int .i64 5] 36)) := ((Far.refl [] w10).alloc _).alloc _
  have ownb : ((w10.alloc (.cells #[.int .u64 0, .int .i64 0, .int .i64 0, .int .i64 0] 36)).alloc (.cells #[.int .u64 7, .int .i64 0, .int .i64 100, .int .i64 5] 36)).ownsRow w10.heap.size 36 4 (.slice (some ⟨w10.heap.size + 1, 0, none⟩) 1 1) 1 (pcs [⟨7, 0, 100, 5⟩]) := by
    refine ⟨rfl, .inr ⟨w10.heap.size + 1, 1, #[.int .u64 7, .int .i64 0, .int .i64 100, .int .i64 5], rfl, by omega, ?_, by omega, by unfold maxLen; omega, rfl, rfl⟩⟩
    have := heap_alloc_new (w10.alloc (.cells #[.int .u64 0, .int .i64 0, .int .i64 0, .int .i64 0] 36)) (.cells #[.int .u64 7, .int .i64 0, .int .i64 100, .int .i64 5] 36)
    rwa [World.size_alloc] at this
  have LB := L10.far F10 (by simp) (by simp)
  have BB := (Far.call B10 B10.size F10 (by simp))
  obtain ⟨ao, c, rfl, PA⟩ := Pks.own (own_far own10 F10 (by simp))
  obtain ⟨bo, c', eb, PB⟩ := Pks.own ownb
  cases eb
  generalize ((w10.alloc (.cells #[.int .u64 0, .int .i64 0, .int .i64 0, .int .i64 0] 36)).alloc (.cells #[.int .u64 7, .int .i64 0, .int .i64 100, .int .i64 5] 36)) = W at *
  refine (same_any _ _ _ _ _ _ _ _ _ PA PB).mono ?_
  rintro e w11 ⟨rfl, B⟩
  have L11 := LB.below B
  have B11 := BB.trans (B.mono BB.size)
  have ev : decide ([(⟨7, 0, 100, 5⟩ : Pt)] = [⟨7, 0, 100, 5⟩]) = true := rfl
  rw [ev]
  go_wp2_with fail
  have fr : Calls Try.prog 18 #[.pointer (some ⟨lb, 0, none⟩)] w11 fun e w' => e = .returned (.int .i64 1) ∧ ∃ q, w' = w11.drewN q := free_any lb mb _ ok9 w11 L11
  refine fr.mono ?_
  rintro e w12 ⟨rfl, q, rfl⟩
  have F12 : Far [] w11 (w11.drewN q) := (Far.refl _ _).drewN q
  have L12 := L11.drewN q
  have B12 := Far.call B11 B11.size F12 (by simp)
  clear fr L11 B11 F12
  generalize w11.drewN q = w12 at *
  go_wp2_with fail
  have nx : Calls Try.prog 17 #[.pointer (some ⟨lb, 0, none⟩)] w12 fun e w' => e = .returned (.int .u64 10) ∧ Below w12.heap.size w12 w' := next_any lb mb _ w12 L12
  refine nx.mono ?_
  rintro e w13 ⟨rfl, B⟩
  have B13 := B12.trans (B.mono B12.size)
  go_wp2_with fail
  go_ret
  exact ⟨rfl, B13⟩
end Go.Proofs.Ytjjojbmpjkcmaaa
