/-
  The document's rows, booked. No conditions.
-/
import Derived.Test.YtpaalpnoppblaaaZ12
namespace Go.Proofs.Ytpaalpnoppblaaa
open Go.RowKit Go.Maps
set_option linter.unusedVariables false
set_option maxRecDepth 8000
theorem lnew_ok (room first : Int) (h0 : 1 ≤ room) (h1 : room ≤ 4096) (f0 : 0 ≤ first) (f1 : first ≤ 18446744073709551615) : (⟨room, first, first, first, 0, []⟩ : Lg).ok :=
  ⟨h0, h1, by show ((0 : Nat) : Int) ≤ room; omega, f0, Int.le_refl _, Int.le_refl _, f1, List.Pairwise.nil, fun p hp => (List.not_mem_nil hp).elim, List.Pairwise.nil, fun p hp => (List.not_mem_nil hp).elim, Int.le_refl _, by show (0 : Int) ≤ _; omega, fun p hp => (List.not_mem_nil hp).elim⟩
theorem Goes.on {B : Nat} {W w w1 : World} {S T : List Nat} (h : Below B W w) (hB : B ≤ w.heap.size) (hS : ∀ k ∈ S, B ≤ k) (G : Goes S T w w1) : Below B W w1 ∧ (∀ k ∈ T, B ≤ k) ∧ B ≤ w1.heap.size := by
  refine ⟨Far.call h hB G.far hS, fun k hk => ?_, Nat.le_trans hB G.far.size⟩
  rcases G.sub k hk with h1 | h1
  · exact hS k h1
  · omega
def b0 : Bk := ⟨⟨9, 0, 0, 0, 0, []⟩, 0, 50, 0, []⟩
def b1 : Bk := bgL b0 10
def b2 : Bk := sdL b1 100 12
def b3 : Bk := bgL b2 20
def b4 : Bk := sdL b3 200 21
def b5 : Bk := stL true b4 0 30
def b6 : Bk := tkL b5
def b7 : Bk := tkL b6
theorem f0 : Fit b0 := new_fit (lnew_ok 9 0 (by omega) (by omega) (by omega) (by omega)) rfl rfl (by omega) (by omega)
theorem f1 : Fit b1 := bg_fit f0 10
theorem f2 : Fit b2 := sd_fit f1 100 12
theorem f3 : Fit b3 := bg_fit f2 20
theorem f4 : Fit b4 := sd_fit f3 200 21
theorem f5 : Fit b5 := st_fit f4 true 0 30
theorem f6 : Fit b6 := tk_fit f5
theorem f7 : Fit b7 := tk_fit f6
theorem v1 : bgV b0 10 = 0 ∧ bgE b0 10 = 0 := by constructor <;> kernel_rfl
theorem v2 : sdV b1 100 12 = 0 ∧ sdE b1 100 12 = 0 := by constructor <;> kernel_rfl
theorem v3 : bgV b2 20 = 1 ∧ bgE b2 20 = 0 := by constructor <;> kernel_rfl
theorem v4 : sdV b3 200 21 = 1 ∧ sdE b3 200 21 = 0 := by constructor <;> kernel_rfl
theorem v5 : stP b4 0 30 = ⟨0, 0, 100, 12⟩ ∧ stE b4 0 30 = 0 := by constructor <;> kernel_rfl
theorem v6 : tkM b5 = ⟨0, 10, 20, 100, 100, 0, 1, 1, 0, 1, 2, 18, 4, 36, 324⟩ ∧ tkB b5 = true := by constructor <;> kernel_rfl
theorem v7 : tkM b6 = ⟨0, 0, 0, 0, 0, 0, 0, 0, 0, 0, 0, 0, 0, 0, 0⟩ ∧ tkB b6 = false := by constructor <;> kernel_rfl
theorem v8 : exP b7 71 = [⟨1, 1, 200, 21⟩] ∧ exE b7 71 = 0 := by constructor <;> kernel_rfl
theorem v9 (o : Int) : stP (exL b7 71 o) 1 72 = ⟨0, 0, 0, 0⟩ ∧ stE (exL b7 71 o) 1 72 = 4 := by constructor <;> kernel_rfl
theorem bg1 : b0.begun = 0 := by kernel_rfl
theorem bg2 : b2.begun = 1 := by kernel_rfl
section
variable (bb : Nat) (S : List Nat) (w : World)
theorem k1 (H : Bka w bb S b0) : Calls Try.prog 15 #[.pointer (some ⟨bb, 0, none⟩), .int .i64 10] w fun e w' => e = .returned (.tuple #[.int .i64 0, .int .i64 0]) ∧ ∃ S', Bka w' bb S' b1 ∧ Goes S S' w w' := by
  have := Begin_any bb S b0 f0 10 (by omega) (by omega) (by rw [bg1]; omega) w H
  rw [v1.1, v1.2] at this; exact this
theorem k2 (H : Bka w bb S b1) : Calls Try.prog 16 #[.pointer (some ⟨bb, 0, none⟩), .int .i64 100, .int .i64 12] w fun e w' => e = .returned (.tuple #[.int .u64 0, .int .i64 0]) ∧ Bka w' bb S b2 ∧ Far S w w' := by
  have := Send_any bb S b1 f1 100 12 (by omega) (by omega) (by omega) (by omega) w H
  rw [v2.1, v2.2] at this; exact this
theorem k3 (H : Bka w bb S b2) : Calls Try.prog 15 #[.pointer (some ⟨bb, 0, none⟩), .int .i64 20] w fun e w' => e = .returned (.tuple #[.int .i64 1, .int .i64 0]) ∧ ∃ S', Bka w' bb S' b3 ∧ Goes S S' w w' := by
  have := Begin_any bb S b2 f2 20 (by omega) (by omega) (by rw [bg2]; omega) w H
  rw [v3.1, v3.2] at this; exact this
theorem k4 (H : Bka w bb S b3) : Calls Try.prog 16 #[.pointer (some ⟨bb, 0, none⟩), .int .i64 200, .int .i64 21] w fun e w' => e = .returned (.tuple #[.int .u64 1, .int .i64 0]) ∧ Bka w' bb S b4 ∧ Far S w w' := by
  have := Send_any bb S b3 f3 200 21 (by omega) (by omega) (by omega) (by omega) w H
  rw [v4.1, v4.2] at this; exact this
theorem k5 (H : Bka w bb S b4) : Calls Try.prog 17 #[.pointer (some ⟨bb, 0, none⟩), .int .u64 0, .int .i64 30] w fun e w' => e = .returned (.tuple #[.agg #[.int .u64 0, .int .i64 0, .int .i64 100, .int .i64 12], .int .i64 0]) ∧ Bka w' bb S b5 ∧ Far S w w' := by
  have := Ack_any bb S b4 f4 0 30 (by omega) (by omega) (by omega) (by omega) w H
  rw [v5.1, v5.2] at this; exact this
theorem k6 (H : Bka w bb S b5) : Calls Try.prog 20 #[.pointer (some ⟨bb, 0, none⟩)] w fun e w' => e = .returned (.tuple #[.agg #[.int .i64 0, .int .i64 10, .int .i64 20, .int .i64 100, .int .i64 100, .int .i64 0, .int .i64 1, .int .i64 1, .int .i64 0, .int .i64 1, .int .i64 2, .int .i64 18, .int .i64 4, .int .i64 36, .int .i64 324], .bool true]) ∧ Bka w' bb S b6 ∧ Far S w w' := by
  have := Take_any bb S b5 f5 w H
  rw [v6.1, v6.2] at this; exact this
theorem k7 (H : Bka w bb S b6) : Calls Try.prog 20 #[.pointer (some ⟨bb, 0, none⟩)] w fun e w' => e = .returned (.tuple #[.agg #[.int .i64 0, .int .i64 0, .int .i64 0, .int .i64 0, .int .i64 0, .int .i64 0, .int .i64 0, .int .i64 0, .int .i64 0, .int .i64 0, .int .i64 0, .int .i64 0, .int .i64 0, .int .i64 0, .int .i64 0], .bool false]) ∧ Bka w' bb S b7 ∧ Far S w w' := by
  have := Take_any bb S b6 f6 w H
  rw [v7.1, v7.2] at this; exact this
theorem k8 (H : Bka w bb S b7) : Calls Try.prog 19 #[.pointer (some ⟨bb, 0, none⟩), .int .i64 71] w fun e w' => ∃ v, e = .returned (.tuple #[v, .int .i64 0]) ∧ w'.ownsRow w.heap.size 57 4 v 1 (pcs [⟨1, 1, 200, 21⟩]) ∧ (∃ o, Bka w' bb S (exL b7 71 o) ∧ Fit (exL b7 71 o)) ∧ Far S w w' := by
  have := Expire_any bb S b7 f7 71 (by omega) (by omega) w H
  rw [v8.1, v8.2] at this; exact this
theorem k9 (o : Int) (hf : Fit (exL b7 71 o)) (H : Bka w bb S (exL b7 71 o)) : Calls Try.prog 17 #[.pointer (some ⟨bb, 0, none⟩), .int .u64 1, .int .i64 72] w fun e w' => e = .returned (.tuple #[.agg #[.int .u64 0, .int .i64 0, .int .i64 0, .int .i64 0], .int .i64 4]) ∧ ∃ s', Bka w' bb S s' ∧ Far S w w' := by
  have := Ack_any bb S _ hf 1 72 (by omega) (by omega) (by omega) (by omega) w H
  rw [(v9 o).1, (v9 o).2] at this
  exact this.mono fun e w' ⟨h1, h2, h3⟩ => ⟨h1, _, h2, h3⟩
theorem k10 (w : World) : Calls Try.prog 15 #[.pointer none, .int .i64 1] w fun e w' => e = .returned (.tuple #[.int .i64 0, .int .i64 5]) ∧ Below w.heap.size w w' := by
  go_enter Try.func15, Try.ntmps15
  go_wp2_with fail
  go_ret2
  exact ⟨rfl, by go_grown⟩
end
attribute [local go_sem ↓] ldM_shut
set_option maxHeartbeats 4000000 in
theorem booked_any (w : World) : Calls Try.prog 13 #[] w fun e w' => e = .returned (.bool true) ∧ Below w.heap.size w w' := by
  go_enter Try.func13, Try.ntmps13
  go_wp2_with fail
  refine (bnew_yes 9 0 50 (by omega) (by omega) (by omega) (by omega) (by omega) (by omega) _).mono ?_
  rintro e w1 ⟨bb, S1, rfl, H1, hS1, B1⟩
  go_wp2_with fail
  refine (k1 bb S1 _ H1).mono ?_
  rintro e w2 ⟨rfl, S2, H2, G2⟩
  obtain ⟨B2, hS2, hz2⟩ := Goes.on B1 B1.size hS1 G2
  clear H1 B1 hS1 G2
  go_wp2_with fail
  refine (k2 bb S2 _ H2).mono ?_
  rintro e w3 ⟨rfl, H3, F3⟩
  have B3 := Far.call B2 hz2 F3 hS2
  clear H2 B2 hz2 F3
  go_wp2_with fail
  refine (k3 bb S2 _ H3).mono ?_
  rintro e w4 ⟨rfl, S4, H4, G4⟩
  obtain ⟨B4, hS4, hz4⟩ := Goes.on B3 B3.size hS2 G4
  clear H3 B3 hS2 G4
  go_wp2_with fail
  refine (k4 bb S4 _ H4).mono ?_
  rintro e w5 ⟨rfl, H5, F5⟩
  have B5 := Far.call B4 hz4 F5 hS4
  clear H4 B4 hz4 F5
  go_wp2_with fail
  refine (k5 bb S4 _ H5).mono ?_
  rintro e w6 ⟨rfl, H6, F6⟩
  have B6 := Far.call B5 B5.size F6 hS4
  clear H5 B5 F6
  have H6' := H6.far ((Far.refl [] _).alloc (.cells #[.int .u64 0, .int .i64 0, .int .i64 100, .int .i64 12] 57)) (by simp)
  have B6' : Below w.heap.size w (w6.alloc (.cells #[.int .u64 0, .int .i64 0, .int .i64 100, .int .i64 12] 57)) := B6.alloc B6.size _
  clear H6 B6
  go_wp2_with fail
  generalize w6.alloc (.cells #[.int .u64 0, .int .i64 0, .int .i64 100, .int .i64 12] 57) = u6 at *
  refine (k6 bb S4 _ H6').mono ?_
  rintro e w7 ⟨rfl, H7, F7⟩
  have B7 := Far.call B6' B6'.size F7 hS4
  have O7 := Ob.fresh w7 #[.int .i64 0, .int .i64 10, .int .i64 20, .int .i64 100, .int .i64 100, .int .i64 0, .int .i64 1, .int .i64 1, .int .i64 0, .int .i64 1, .int .i64 2, .int .i64 18, .int .i64 4, .int .i64 36, .int .i64 324] 63
  have hl7 : ∀ k ∈ S4, k < w7.heap.size := H7.low
  have H7' := H7.far ((Far.refl [] _).alloc (.cells #[.int .i64 0, .int .i64 10, .int .i64 20, .int .i64 100, .int .i64 100, .int .i64 0, .int .i64 1, .int .i64 1, .int .i64 0, .int .i64 1, .int .i64 2, .int .i64 18, .int .i64 4, .int .i64 36, .int .i64 324] 63)) (by simp)
  have B7' : Below w.heap.size w (w7.alloc (.cells #[.int .i64 0, .int .i64 10, .int .i64 20, .int .i64 100, .int .i64 100, .int .i64 0, .int .i64 1, .int .i64 1, .int .i64 0, .int .i64 1, .int .i64 2, .int .i64 18, .int .i64 4, .int .i64 36, .int .i64 324] 63)) := B7.alloc B7.size _
  clear H7 B7 F7 H6' B6'
  go_wp2_with fail
  generalize w7.alloc (.cells #[.int .i64 0, .int .i64 10, .int .i64 20, .int .i64 100, .int .i64 100, .int .i64 0, .int .i64 1, .int .i64 1, .int .i64 0, .int .i64 1, .int .i64 2, .int .i64 18, .int .i64 4, .int .i64 36, .int .i64 324] 63) = u7 at *
  have hnS : w7.heap.size ∉ S4 := fun hm => by have := hl7 _ hm; omega
  generalize w7.heap.size = mb at *
  refine (k7 bb S4 _ H7').mono ?_
  rintro e w8 ⟨rfl, H8, F8⟩
  have B8 := Far.call B7' B7'.size F8 hS4
  have O8 := (O7.far F8 hnS).far ((Far.refl [] _).alloc (.cells #[.int .i64 0, .int .i64 0, .int .i64 0, .int .i64 0, .int .i64 0, .int .i64 0, .int .i64 0, .int .i64 0, .int .i64 0, .int .i64 0, .int .i64 0, .int .i64 0, .int .i64 0, .int .i64 0, .int .i64 0] 63)) (by simp)
  have H8' := H8.far ((Far.refl [] _).alloc (.cells #[.int .i64 0, .int .i64 0, .int .i64 0, .int .i64 0, .int .i64 0, .int .i64 0, .int .i64 0, .int .i64 0, .int .i64 0, .int .i64 0, .int .i64 0, .int .i64 0, .int .i64 0, .int .i64 0, .int .i64 0] 63)) (by simp)
  have B8' : Below w.heap.size w (w8.alloc (.cells #[.int .i64 0, .int .i64 0, .int .i64 0, .int .i64 0, .int .i64 0, .int .i64 0, .int .i64 0, .int .i64 0, .int .i64 0, .int .i64 0, .int .i64 0, .int .i64 0, .int .i64 0, .int .i64 0, .int .i64 0] 63)) := B8.alloc B8.size _
  clear H8 B8 F8 H7' B7' O7 hl7
  go_wp2_with fail
  generalize w8.alloc (.cells #[.int .i64 0, .int .i64 0, .int .i64 0, .int .i64 0, .int .i64 0, .int .i64 0, .int .i64 0, .int .i64 0, .int .i64 0, .int .i64 0, .int .i64 0, .int .i64 0, .int .i64 0, .int .i64 0, .int .i64 0] 63) = u8 at *
  generalize w8.heap.size = nb at *
  refine (k8 bb S4 _ H8').mono ?_
  rintro e w9 ⟨v, rfl, own9, ⟨oo, H9, hf9⟩, F9⟩
  have B9 := Far.call B8' B8'.size F9 hS4
  have O9 := O8.far F9 hnS
  have hl8 : ∀ k ∈ S4, k < u8.heap.size := H8'.low
  clear H8' B8' F9 O8
  go_wp2_with fail
  refine (k9 bb S4 _ oo hf9 H9).mono ?_
  rintro e w10 ⟨rfl, s10, H10, F10⟩
  have B10 := Far.call B9 B9.size F10 hS4
  have O10 := (O9.far F10 hnS).far ((Far.refl [] _).alloc (.cells #[.int .u64 0, .int .i64 0, .int .i64 0, .int .i64 0] 57)) (by simp)
  have own10 := own_far (own_far own9 F10 hl8) ((Far.refl [] _).alloc (.cells #[.int .u64 0, .int .i64 0, .int .i64 0, .int .i64 0] 57)) (by simp)
  have B10' : Below w.heap.size w (w10.alloc (.cells #[.int .u64 0, .int .i64 0, .int .i64 0, .int .i64 0] 57)) := B10.alloc B10.size _
  clear B9 O9 F10 H10 B10 H9 own9
  go_wp2_with fail
  generalize w10.alloc (.cells #[.int .u64 0, .int .i64 0, .int .i64 0, .int .i64 0] 57) = u10 at *
  generalize w10.heap.size = pb at *
  refine (k10 _).mono ?_
  rintro e w11 ⟨rfl, hw11⟩
  have B11 := B10'.trans (hw11.mono B10'.size)
  have O11 := O10.far (Far.of_below hw11) (by simp)
  have own11 := own_far own10 (Far.of_below hw11) (by simp)
  obtain ⟨ax, cx, rfl, PX⟩ := Pks.own own11
  obtain ⟨xb, rfl, hxl, hx⟩ := PX.at' (by omega)
  have x0 : w11.cell? ⟨xb, 0, none⟩ = some (.int .u64 1) := (hx 0 (by simp)).1
  have hM : (ldM (.pointer (some ⟨mb, 0, none⟩))).run Try.prog w11 = .ok (.agg #[.int .i64 0, .int .i64 10, .int .i64 20, .int .i64 100, .int .i64 100, .int .i64 0, .int .i64 1, .int .i64 1, .int .i64 0, .int .i64 1, .int .i64 2, .int .i64 18, .int .i64 4, .int .i64 36, .int .i64 324]) w11 := ldM_run (m := ⟨0, 10, 20, 100, 100, 0, 1, 1, 0, 1, 2, 18, 4, 36, 324⟩) O11.c
  have EQ : ∀ w, (Op.equalIn 10000 63 (.agg #[.int .i64 0, .int .i64 10, .int .i64 20, .int .i64 100, .int .i64 100, .int .i64 0, .int .i64 1, .int .i64 1, .int .i64 0, .int .i64 1, .int .i64 2, .int .i64 18, .int .i64 4, .int .i64 36, .int .i64 324]) (.agg #[.int .i64 0, .int .i64 10, .int .i64 20, .int .i64 100, .int .i64 100, .int .i64 0, .int .i64 1, .int .i64 1, .int .i64 0, .int .i64 1, .int .i64 2, .int .i64 18, .int .i64 4, .int .i64 36, .int .i64 324])).run Try.prog w = .ok true w := fun w => eqM_same ⟨0, 10, 20, 100, 100, 0, 1, 1, 0, 1, 2, 18, 4, 36, 324⟩ w
  have hcx := PX.cap
  clear B10' O10 own10 hw11 O11 own11 PX hx
  go_wp2_with fail
  go_ret
  exact ⟨rfl, B11⟩
end Go.Proofs.Ytpaalpnoppblaaa
