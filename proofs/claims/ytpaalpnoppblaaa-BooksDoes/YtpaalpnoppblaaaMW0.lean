/-
  What a step leaves of books as it was; what is told once all packets are; a script that is short. No conditions but the books' own.
  A script of steps of four, as they come in. No conditions.
  The document's rows, booked. No conditions.
-/
import Derived.Test.YtpaalpnoppblaaaZ12
import Derived.Test.YtpaalpnoppblaaaK
import Derived.Test.YtpaalpnoppblaaaProg
import Derived.Lib.SmallJoins
import Derived.Deep.Fields
import Derived.ChangeSlices
import Derived.OpenShut
/-! Z20 -/
namespace Go.Proofs.Ytpaalpnoppblaaa
open Go.RowKit Go.Maps
set_option linter.unusedVariables false
set_option maxRecDepth 8000
theorem lnew_ok (room first : Int) (h0 : 1 ≤ room) (h1 : room ≤ 4096) (f0 : 0 ≤ first) (f1 : first ≤ 18446744073709551615) : (⟨room, first, first, first, 0, []⟩ : Lg).ok :=
  ⟨h0, h1, by show ((0 : Nat) : Int) ≤ room; omega, f0, Int.le_refl _, Int.le_refl _, f1, List.Pairwise.nil, fun p hp => (List.not_mem_nil hp).elim, List.Pairwise.nil, fun p hp => (List.not_mem_nil hp).elim, Int.le_refl _, by show (0 : Int) ≤ _; omega, fun p hp => (List.not_mem_nil hp).elim⟩
theorem Goes.on {B : Nat} {W w w1 : World} {S T : List Nat} (h : Below B W w) (hB : B ≤ w.heap.size) (hS : ∀ k ∈ S, B ≤ k) (G : Goes S T w w1) : Below B W w1 ∧ (∀ k ∈ T, B ≤ k) ∧ B ≤ w1.heap.size := by
  refine ⟨Far.call h hB G.far hS, fun k hk => ?_, Nat.le_trans hB G.far.size⟩
  rcases G.sub k hk with h1 | h1
  · exact hS k h1
  · omega
def b0 : Bk := ⟨⟨9, 0, 0, 0, 0, []⟩, 0, 50, 0, []⟩
def b1 : Bk := bgL b0 10
def b2 : Bk := sdL b1 100 12
def b3 : Bk := bgL b2 20
def b4 : Bk := sdL b3 200 21
def b5 : Bk := stL true b4 0 30
def b6 : Bk := tkL b5
def b7 : Bk := tkL b6
theorem f0 : Fit b0 := new_fit (lnew_ok 9 0 (by omega) (by omega) (by omega) (by omega)) rfl rfl (by omega) (by omega)
theorem f1 : Fit b1 := bg_fit f0 10
theorem f2 : Fit b2 := sd_fit f1 100 12
theorem f3 : Fit b3 := bg_fit f2 20
theorem f4 : Fit b4 := sd_fit f3 200 21
theorem f5 : Fit b5 := st_fit f4 true 0 30
theorem f6 : Fit b6 := tk_fit f5
theorem f7 : Fit b7 := tk_fit f6
theorem v1 : bgV b0 10 = 0 ∧ bgE b0 10 = 0 := by constructor <;> kernel_rfl
theorem v2 : sdV b1 100 12 = 0 ∧ sdE b1 100 12 = 0 := by constructor <;> kernel_rfl
theorem v3 : bgV b2 20 = 1 ∧ bgE b2 20 = 0 := by constructor <;> kernel_rfl
theorem v4 : sdV b3 200 21 = 1 ∧ sdE b3 200 21 = 0 := by constructor <;> kernel_rfl
theorem v5 : stP b4 0 30 = ⟨0, 0, 100, 12⟩ ∧ stE b4 0 30 = 0 := by constructor <;> kernel_rfl
theorem v6 : tkM b5 = ⟨0, 10, 20, 100, 100, 0, 1, 1, 0, 1, 2, 18, 4, 36, 324⟩ ∧ tkB b5 = true := by constructor <;> kernel_rfl
theorem v7 : tkM b6 = ⟨0, 0, 0, 0, 0, 0, 0, 0, 0, 0, 0, 0, 0, 0, 0⟩ ∧ tkB b6 = false := by constructor <;> kernel_rfl
theorem v8 : exP b7 71 = [⟨1, 1, 200, 21⟩] ∧ exE b7 71 = 0 := by constructor <;> kernel_rfl
theorem v9 (o : Int) : stP (exL b7 71 o) 1 72 = ⟨0, 0, 0, 0⟩ ∧ stE (exL b7 71 o) 1 72 = 4 := by constructor <;> kernel_rfl
theorem bg1 : b0.begun = 0 := by kernel_rfl
theorem bg2 : b2.begun = 1 := by kernel_rfl
section
variable (bb : Nat) (S : List Nat) (w : World)
theorem k1 (H : Bka w bb S b0) : Calls Try.prog 15 #[.pointer (some ⟨bb, 0, none⟩), .int .i64 10] w fun e w' => e = .returned (.tuple #[.int .i64 0, .int .i64 0]) ∧ ∃ S', Bka w' bb S' b1 ∧ Goes S S' w w' := by
  have := Begin_any bb S b0 f0 10 (by omega) (by omega) (by rw [bg1]; omega) w H
  rw [v1.1, v1.2] at this; exact this
theorem k2 (H : Bka w bb S b1) : Calls Try.prog 16 #[.pointer (some ⟨bb, 0, none⟩), .int .i64 100, .int .i64 12] w fun e w' => e = .returned (.tuple #[.int .u64 0, .int .i64 0]) ∧ Bka w' bb S b2 ∧ Far S w w' := by
  have := Send_any bb S b1 f1 100 12 (by omega) (by omega) (by omega) (by omega) w H
  rw [v2.1, v2.2] at this; exact this
theorem k3 (H : Bka w bb S b2) : Calls Try.prog 15 #[.pointer (some ⟨bb, 0, none⟩), .int .i64 20] w fun e w' => e = .returned (.tuple #[.int .i64 1, .int .i64 0]) ∧ ∃ S', Bka w' bb S' b3 ∧ Goes S S' w w' := by
  have := Begin_any bb S b2 f2 20 (by omega) (by omega) (by rw [bg2]; omega) w H
  rw [v3.1, v3.2] at this; exact this
theorem k4 (H : Bka w bb S b3) : Calls Try.prog 16 #[.pointer (some ⟨bb, 0, none⟩), .int .i64 200, .int .i64 21] w fun e w' => e = .returned (.tuple #[.int .u64 1, .int .i64 0]) ∧ Bka w' bb S b4 ∧ Far S w w' := by
  have := Send_any bb S b3 f3 200 21 (by omega) (by omega) (by omega) (by omega) w H
  rw [v4.1, v4.2] at this; exact this
theorem k5 (H : Bka w bb S b4) : Calls Try.prog 17 #[.pointer (some ⟨bb, 0, none⟩), .int .u64 0, .int .i64 30] w fun e w' => e = .returned (.tuple #[.agg #[.int .u64 0, .int .i64 0, .int .i64 100, .int .i64 12], .int .i64 0]) ∧ Bka w' bb S b5 ∧ Far S w w' := by
  have := Ack_any bb S b4 f4 0 30 (by omega) (by omega) (by omega) (by omega) w H
  rw [v5.1, v5.2] at this; exact this
theorem k6 (H : Bka w bb S b5) : Calls Try.prog 20 #[.pointer (some ⟨bb, 0, none⟩)] w fun e w' => e = .returned (.tuple #[.agg #[.int .i64 0, .int .i64 10, .int .i64 20, .int .i64 100, .int .i64 100, .int .i64 0, .int .i64 1, .int .i64 1, .int .i64 0, .int .i64 1, .int .i64 2, .int .i64 18, .int .i64 4, .int .i64 36, .int .i64 324], .bool true]) ∧ Bka w' bb S b6 ∧ Far S w w' := by
  have := Take_any bb S b5 f5 w H
  rw [v6.1, v6.2] at this; exact this
theorem k7 (H : Bka w bb S b6) : Calls Try.prog 20 #[.pointer (some ⟨bb, 0, none⟩)] w fun e w' => e = .returned (.tuple #[.agg #[.int .i64 0, .int .i64 0, .int .i64 0, .int .i64 0, .int .i64 0, .int .i64 0, .int .i64 0, .int .i64 0, .int .i64 0, .int .i64 0, .int .i64 0, .int .i64 0, .int .i64 0, .int .i64 0, .int .i64 0], .bool false]) ∧ Bka w' bb S b7 ∧ Far S w w' := by
  have := Take_any bb S b6 f6 w H
  rw [v7.1, v7.2] at this; exact this
theorem k8 (H : Bka w bb S b7) : Calls Try.prog 19 #[.pointer (some ⟨bb, 0, none⟩), .int .i64 71] w fun e w' => ∃ v, e = .returned (.tuple #[v, .int .i64 0]) ∧ w'.ownsRow w.heap.size 57 4 v 1 (pcs [⟨1, 1, 200, 21⟩]) ∧ (∃ o, Bka w' bb S (exL b7 71 o) ∧ Fit (exL b7 71 o)) ∧ Far S w w' := by
  have := Expire_any bb S b7 f7 71 (by omega) (by omega) w H
  rw [v8.1, v8.2] at this; exact this
theorem k9 (o : Int) (hf : Fit (exL b7 71 o)) (H : Bka w bb S (exL b7 71 o)) : Calls Try.prog 17 #[.pointer (some ⟨bb, 0, none⟩), .int .u64 1, .int .i64 72] w fun e w' => e = .returned (.tuple #[.agg #[.int .u64 0, .int .i64 0, .int .i64 0, .int .i64 0], .int .i64 4]) ∧ ∃ s', Bka w' bb S s' ∧ Far S w w' := by
  have := Ack_any bb S _ hf 1 72 (by omega) (by omega) (by omega) (by omega) w H
  rw [(v9 o).1, (v9 o).2] at this
  exact this.mono fun e w' ⟨h1, h2, h3⟩ => ⟨h1, _, h2, h3⟩
theorem k10 (w : World) : Calls Try.prog 15 #[.pointer none, .int .i64 1] w fun e w' => e = .returned (.tuple #[.int .i64 0, .int .i64 5]) ∧ Below w.heap.size w w' := by
  go_enter Try.func15, Try.ntmps15
  go_wp2_with fail
  go_ret2
  exact ⟨rfl, by go_grown⟩
end
attribute [local go_sem ↓] ldM_shut
set_option maxHeartbeats 4000000 in
theorem booked_any (w : World) : Calls Try.prog 13 #[] w fun e w' => e = .returned (.bool true) ∧ Below w.heap.size w w' := by
  go_enter Try.func13, Try.ntmps13
  go_wp2_with fail
  refine (bnew_yes 9 0 50 (by omega) (by omega) (by omega) (by omega) (by omega) (by omega) _).mono ?_
  rintro e w1 ⟨bb, S1, rfl, H1, hS1, B1⟩
  go_wp2_with fail
  refine (k1 bb S1 _ H1).mono ?_
  rintro e w2 ⟨rfl, S2, H2, G2⟩
  obtain ⟨B2, hS2, hz2⟩ := Goes.on B1 B1.size hS1 G2
  clear H1 B1 hS1 G2
  go_wp2_with fail
  refine (k2 bb S2 _ H2).mono ?_
  rintro e w3 ⟨rfl, H3, F3⟩
  have B3 := Far.call B2 hz2 F3 hS2
  clear H2 B2 hz2 F3
  go_wp2_with fail
  refine (k3 bb S2 _ H3).mono ?_
  rintro e w4 ⟨rfl, S4, H4, G4⟩
  obtain ⟨B4, hS4, hz4⟩ := Goes.on B3 B3.size hS2 G4
  clear H3 B3 hS2 G4
  go_wp2_with fail
  refine (k4 bb S4 _ H4).mono ?_
  rintro e w5 ⟨rfl, H5, F5⟩
  have B5 := Far.call B4 hz4 F5 hS4
  clear H4 B4 hz4 F5
  go_wp2_with fail
  refine (k5 bb S4 _ H5).mono ?_
  rintro e w6 ⟨rfl, H6, F6⟩
  have B6 := Far.call B5 B5.size F6 hS4
  clear H5 B5 F6
  have H6' := H6.far ((Far.refl [] _).alloc (.cells #[.int .u64 0, .int .i64 0, .int .i64 100, .int .i64 12] 57)) (by simp)
  have B6' : Below w.heap.size w (w6.alloc (.cells #[.int .u64 0, .int .i64 0, .int .i64 100, .int .i64 12] 57)) := B6.alloc B6.size _
  clear H6 B6
  go_wp2_with fail
  generalize w6.alloc (.cells #[.int .u64 0, .int .i64 0, .int .i64 100, .int .i64 12] 57) = u6 at *
  refine (k6 bb S4 _ H6').mono ?_
  rintro e w7 ⟨rfl, H7, F7⟩
  have B7 := Far.call B6' B6'.size F7 hS4
  have O7 := Ob.fresh w7 #[.int .i64 0, .int .i64 10, .int .i64 20, .int .i64 100, .int .i64 100, .int .i64 0, .int .i64 1, .int .i64 1, .int .i64 0, .int .i64 1, .int .i64 2, .int .i64 18, .int .i64 4, .int .i64 36, .int .i64 324] 63
  have hl7 : ∀ k ∈ S4, k < w7.heap.size := H7.low
  have H7' := H7.far ((Far.refl [] _).alloc (.cells #[.int .i64 0, .int .i64 10, .int .i64 20, .int .i64 100, .int .i64 100, .int .i64 0, .int .i64 1, .int .i64 1, .int .i64 0, .int .i64 1, .int .i64 2, .int .i64 18, .int .i64 4, .int .i64 36, .int .i64 324] 63)) (by simp)
  have B7' : Below w.heap.size w (w7.alloc (.cells #[.int .i64 0, .int .i64 10, .int .i64 20, .int .i64 100, .int .i64 100, .int .i64 0, .int .i64 1, .int .i64 1, .int .i64 0, .int .i64 1, .int .i64 2, .int .i64 18, .int .i64 4, .int .i64 36, .int .i64 324] 63)) := B7.alloc B7.size _
  clear H7 B7 F7 H6' B6'
  go_wp2_with fail
  generalize w7.alloc (.cells #[.int .i64 0, .int .i64 10, .int .i64 20, .int .i64 100, .int .i64 100, .int .i64 0, .int .i64 1, .int .i64 1, .int .i64 0, .int .i64 1, .int .i64 2, .int .i64 18, .int .i64 4, .int .i64 36, .int .i64 324] 63) = u7 at *
  have hnS : w7.heap.size ∉ S4 := fun hm => by have := hl7 _ hm; omega
  generalize w7.heap.size = mb at *
  refine (k7 bb S4 _ H7').mono ?_
  rintro e w8 ⟨rfl, H8, F8⟩
  have B8 := Far.call B7' B7'.size F8 hS4
  have O8 := (O7.far F8 hnS).far ((Far.refl [] _).alloc (.cells #[.int .i64 0, .int .i64 0, .int .i64 0, .int .i64 0, .int .i64 0, .int .i64 0, .int .i64 0, .int .i64 0, .int .i64 0, .int .i64 0, .int .i64 0, .int .i64 0, .int .i64 0, .int .i64 0, .int .i64 0] 63)) (by simp)
  have H8' := H8.far ((Far.refl [] _).alloc (.cells #[.int .i64 0, .int .i64 0, .int .i64 0, .int .i64 0, .int .i64 0, .int .i64 0, .int .i64 0, .int .i64 0, .int .i64 0, .int .i64 0, .int .i64 0, .int .i64 0, .int .i64 0, .int .i64 0, .int .i64 0] 63)) (by simp)
  have B8' : Below w.heap.size w (w8.alloc (.cells #[.int .i64 0, .int .i64 0, .int .i64 0, .int .i64 0, .int .i64 0, .int .i64 0, .int .i64 0, .int .i64 0, .int .i64 0, .int .i64 0, .int .i64 0, .int .i64 0, .int .i64 0, .int .i64 0, .int .i64 0] 63)) := B8.alloc B8.size _
  clear H8 B8 F8 H7' B7' O7 hl7
  go_wp2_with fail
  generalize w8.alloc (.cells #[.int .i64 0, .int .i64 0, .int .i64 0, .int .i64 0, .int .i64 0, .int .i64 0, .int .i64 0, .int .i64 0, .int .i64 0, .int .i64 0, .int .i64 0, .int .i64 0, .int .i64 0, .int .i64 0, .int .i64 0] 63) = u8 at *
  generalize w8.heap.size = nb at *
  refine (k8 bb S4 _ H8').mono ?_
  rintro e w9 ⟨v, rfl, own9, ⟨oo, H9, hf9⟩, F9⟩
  have B9 := Far.call B8' B8'.size F9 hS4
  have O9 := O8.far F9 hnS
  have hl8 : ∀ k ∈ S4, k < u8.heap.size := H8'.low
  clear H8' B8' F9 O8
  go_wp2_with fail
  refine (k9 bb S4 _ oo hf9 H9).mono ?_
  rintro e w10 ⟨rfl, s10, H10, F10⟩
  have B10 := Far.call B9 B9.size F10 hS4
  have O10 := (O9.far F10 hnS).far ((Far.refl [] _).alloc (.cells #[.int .u64 0, .int .i64 0, .int .i64 0, .int .i64 0] 57)) (by simp)
  have own10 := own_far (own_far own9 F10 hl8) ((Far.refl [] _).alloc (.cells #[.int .u64 0, .int .i64 0, .int .i64 0, .int .i64 0] 57)) (by simp)
  have B10' : Below w.heap.size w (w10.alloc (.cells #[.int .u64 0, .int .i64 0, .int .i64 0, .int .i64 0] 57)) := B10.alloc B10.size _
  clear B9 O9 F10 H10 B10 H9 own9
  go_wp2_with fail
  generalize w10.alloc (.cells #[.int .u64 0, .int .i64 0, .int .i64 0, .int .i64 0] 57) = u10 at *
  generalize w10.heap.size = pb at *
  refine (k10 _).mono ?_
  rintro e w11 ⟨rfl, hw11⟩
  have B11 := B10'.trans (hw11.mono B10'.size)
  have O11 := O10.far (Far.of_below hw11) (by simp)
  have own11 := own_far own10 (Far.of_below hw11) (by simp)
  obtain ⟨ax, cx, rfl, PX⟩ := Pks.own own11
  obtain ⟨xb, rfl, hxl, hx⟩ := PX.at' (by omega)
  have x0 : w11.cell? ⟨xb, 0, none⟩ = some (.int .u64 1) := (hx 0 (by simp)).1
  have hM : (ldM (.pointer (some ⟨mb, 0, none⟩))).run Try.prog w11 = .ok (.agg #[.int .i64 0, .int .i64 10, .int .i64 20, .int .i64 100, .int .i64 100, .int .i64 0, .int .i64 1, .int .i64 1, .int .i64 0, .int .i64 1, .int .i64 2, .int .i64 18, .int .i64 4, .int .i64 36, .int .i64 324]) w11 := ldM_run (m := ⟨0, 10, 20, 100, 100, 0, 1, 1, 0, 1, 2, 18, 4, 36, 324⟩) O11.c
  have EQ : ∀ w, (Op.equalIn 10000 63 (.agg #[.int .i64 0, .int .i64 10, .int .i64 20, .int .i64 100, .int .i64 100, .int .i64 0, .int .i64 1, .int .i64 1, .int .i64 0, .int .i64 1, .int .i64 2, .int .i64 18, .int .i64 4, .int .i64 36, .int .i64 324]) (.agg #[.int .i64 0, .int .i64 10, .int .i64 20, .int .i64 100, .int .i64 100, .int .i64 0, .int .i64 1, .int .i64 1, .int .i64 0, .int .i64 1, .int .i64 2, .int .i64 18, .int .i64 4, .int .i64 36, .int .i64 324])).run Try.prog w = .ok true w := fun w => eqM_same ⟨0, 10, 20, 100, 100, 0, 1, 1, 0, 1, 2, 18, 4, 36, 324⟩ w
  have hcx := PX.cap
  clear B10' O10 own10 hw11 O11 own11 PX hx
  go_wp2_with fail
  go_ret
  exact ⟨rfl, B11⟩
end Go.Proofs.Ytpaalpnoppblaaa

/-! XS12 -/
namespace Go.Proofs.Ytpaalpnoppblaaa
open Go.ChangeShapes Go.WideShapes Go.RowKit Go.Joins Go.Deep
set_option linter.unusedVariables false
set_option maxRecDepth 8000
/-- A step: four numbers. -/
structure St where
  k : Int
  s : Int
  a : Int
  q : Int
structure St.Bd (z : St) : Prop where
  k : -9223372036854775808 ≤ z.k ∧ z.k ≤ 9223372036854775807
  s : -9223372036854775808 ≤ z.s ∧ z.s ≤ 9223372036854775807
  a : -9223372036854775808 ≤ z.a ∧ z.a ≤ 9223372036854775807
  q : 0 ≤ z.q ∧ z.q ≤ 18446744073709551615
/-- A script in memory. -/
structure Steps (w : World) (ao : Option Addr) (n c : Nat) (Z : Nat → St) : Prop where
  cap : n ≤ c
  max : c ≤ maxLen
  bd : ∀ i, (Z i).Bd
  at' : 0 < n → ∃ b o, ao = some ⟨b, o, none⟩ ∧ b < w.heap.size ∧ ∀ i, i < n → w.cell? ⟨b, o + i * 4, none⟩ = some (.int .i64 (Z i).k) ∧ w.cell? ⟨b, o + i * 4 + 1, none⟩ = some (.int .i64 (Z i).s) ∧ w.cell? ⟨b, o + i * 4 + 2, none⟩ = some (.int .i64 (Z i).a) ∧ w.cell? ⟨b, o + i * 4 + 3, none⟩ = some (.int .u64 (Z i).q)
theorem Steps.below {w w1 : World} {ao : Option Addr} {n c : Nat} {Z : Nat → St} (h : Steps w ao n c Z) (hb : Below w.heap.size w w1) : Steps w1 ao n c Z := by
  refine ⟨h.cap, h.max, h.bd, fun hn => ?_⟩
  obtain ⟨b, o, e, hl, hc⟩ := h.at' hn
  refine ⟨b, o, e, Nat.lt_of_lt_of_le hl hb.size, fun i hi => ?_⟩
  obtain ⟨c0, c1, c2, c3⟩ := hc i hi
  exact ⟨(hb.cell (p := ⟨b, _, none⟩) hl).trans c0, (hb.cell (p := ⟨b, _, none⟩) hl).trans c1, (hb.cell (p := ⟨b, _, none⟩) hl).trans c2, (hb.cell (p := ⟨b, _, none⟩) hl).trans c3⟩
section
variable {H : Type} {enc : TypeId × Value → H} {w : World} {base : Nat} {spare : Nat → Bool} {held : Bool}
theorem word_bd {x : Int} (h : (Lit.int .u64 x).wf = true) : 0 ≤ x ∧ x ≤ 18446744073709551615 := bounds_u64 h
theorem int_bd {x : Int} (h : (Lit.int .i64 x).wf = true) : -9223372036854775808 ≤ x ∧ x ≤ 9223372036854775807 := bounds_i64 h
theorem list4 {cs : List Value} (h : cs.length = 4) : ∃ c0 c1 c2 c3, cs = [c0, c1, c2, c3] := by
  match cs, h with
  | [c0, c1, c2, c3], _ => exact ⟨c0, c1, c2, c3, rfl⟩
theorem step_of {fuel : Nat} {cs : List Value} {x : DataW H × List MemPlace} (h : DataW.trod enc Try.prog w base spare held fuel 34 cs = some x) :
    ∃ z : St, z.Bd ∧ cs = [.int .i64 z.k, .int .i64 z.s, .int .i64 z.a, .int .u64 z.q] := by
  obtain ⟨y0, y1, y2, y3, n, _, hl, h0, h1, h2, h3⟩ := trod_struct4 Try.underlying34 h
  have c1 : Try.prog.cellsOf 3 = 1 := by kernel_rfl
  have c2 : Try.prog.cellsOf 22 = 1 := by kernel_rfl
  have c5 : Try.prog.cellsOf 34 = 4 := by kernel_rfl
  obtain ⟨v0, v1, v2, v3, rfl⟩ := list4 (hl.trans c5)
  simp only [c1, c2, List.drop, List.take] at h0 h1 h2 h3
  obtain ⟨k, e0, _, wk⟩ := DataW.trod_int Try.underlying3 h0
  obtain ⟨s, e1, _, ws⟩ := DataW.trod_int Try.underlying3 h1
  obtain ⟨a, e2, _, wa⟩ := DataW.trod_int Try.underlying3 h2
  obtain ⟨q, e3, _, wq⟩ := DataW.trod_int Try.underlying22 h3
  simp only [List.cons.injEq, and_true] at e0 e1 e2 e3
  subst e0 e1 e2 e3
  exact ⟨⟨k, s, a, q⟩, ⟨int_bd wk, int_bd ws, int_bd wa, word_bd wq⟩, rfl⟩
theorem open_steps {r : Reach} {b0 : Nat} {v : Value} {d : DataW H} {p : List MemPlace} (hv : Value.okWide Try.prog w r b0 23 v) (h : DataW.Trod enc Try.prog w base spare held 23 v d p) :
    ∃ ao n c Z, v = .slice ao n c ∧ Steps w ao n c Z := by
  obtain ⟨a, l, c, rfl⟩ := okWide_slice Try.underlying23 hv
  obtain ⟨fuel, hf⟩ := h
  have z0 : St.Bd ⟨0, 0, 0, 0⟩ := ⟨by simp, by simp, by simp, by simp⟩
  rcases DataW.trod_slice Try.underlying23 hf with ⟨hcs, _⟩ | ⟨a', len, cap, elems, rest, n, _, hcs, _, hb, hl, hm, hlen, hel, _, _⟩
  · have hcs : [Value.slice a l c] = [.slice none 0 0] := hcs
    simp only [List.cons.injEq, and_true] at hcs
    cases hcs
    exact ⟨none, 0, 0, fun _ => ⟨0, 0, 0, 0⟩, rfl, Nat.le_refl _, by unfold maxLen; omega, fun _ => z0, fun h => absurd h (Nat.lt_irrefl _)⟩
  · have hcs : [Value.slice a l c] = [.slice (some a') len cap] := hcs
    simp only [List.cons.injEq, and_true] at hcs
    cases hcs
    have each : ∀ i, ∃ z : St, z.Bd ∧ (i < l → w.cell? (a'.add (i * 4)) = some (.int .i64 z.k) ∧ w.cell? ((a'.add (i * 4)).add 1) = some (.int .i64 z.s) ∧ w.cell? ((a'.add (i * 4)).add 2) = some (.int .i64 z.a) ∧ w.cell? ((a'.add (i * 4)).add 3) = some (.int .u64 z.q)) := by
      intro i
      by_cases hi : i < l
      · have hi' := hel i hi
        rw [List.getElem?_eq_getElem (by omega), show Try.prog.cellsOf 34 = 4 by kernel_rfl, Option.bind_eq_some_iff] at hi'
        obtain ⟨cs', hc', hy⟩ := hi'
        obtain ⟨z, hz, rfl⟩ := step_of hy
        obtain ⟨_, _, hcell⟩ := World.cells?_some hc'
        exact ⟨z, hz, fun _ => ⟨by have := hcell 0 (by omega); simpa [Addr.add] using this, hcell 1 (by omega), hcell 2 (by omega), hcell 3 (by omega)⟩⟩
      · exact ⟨⟨0, 0, 0, 0⟩, z0, fun h => absurd h hi⟩
    refine ⟨some a', l, c, fun i => Classical.choose (each i), rfl, hl, hm, fun i => (Classical.choose_spec (each i)).1, fun hn => ?_⟩
    obtain ⟨b, o, spot⟩ := a'
    have h0 := ((Classical.choose_spec (each 0)).2 hn).1
    have hspot : spot = none := by simpa [Addr.add] using World.cell?_spot h0
    subst hspot
    refine ⟨b, o, rfl, World.block_lt_of_cell? _ _ h0, fun i hi => ?_⟩
    have := (Classical.choose_spec (each i)).2 hi
    simpa only [add_plain] using this
end
end Go.Proofs.Ytpaalpnoppblaaa

/-! W0 -/
namespace Go.Proofs.Ytpaalpnoppblaaa
open Go.RowKit Go.Maps
set_option linter.unusedVariables false
set_option maxRecDepth 8000
/-- What a step keeps. -/
structure Kept (s u : Bk) : Prop where
  r : u.l.room = s.l.room
  f : u.l.first = s.l.first
  t : u.timeout = s.timeout
  b : u.begun ≤ s.begun + 1
theorem Kept.refl (s : Bk) : Kept s s := ⟨rfl, rfl, rfl, by omega⟩
theorem bg_kept (s : Bk) (a : Int) : Kept s (bgL s a) ∧ (bgL s a).now = if bgE s a = 0 then a else s.now := by
  unfold bgL; split
  · exact ⟨⟨rfl, rfl, rfl, Int.le_refl _⟩, rfl⟩
  · exact ⟨Kept.refl s, rfl⟩
theorem sd_kept (s : Bk) (z a : Int) : Kept s (sdL s z a) ∧ (sdL s z a).now = if sdE s z a = 0 then a else s.now := by
  unfold sdL; split
  · refine ⟨⟨?_, ?_, rfl, by show s.begun ≤ s.begun + 1; omega⟩, rfl⟩
    · show (sentL s.l (s.begun - 1) z a).room = _; unfold sentL; split <;> rfl
    · show (sentL s.l (s.begun - 1) z a).first = _; unfold sentL; split <;> rfl
  · exact ⟨Kept.refl s, rfl⟩
theorem st_kept (k : Bool) (s : Bk) (x a : Int) : Kept s (stL k s x a) ∧ (stL k s x a).now = if stE s x a = 0 then a else s.now := by
  unfold stL; split
  · refine ⟨⟨?_, ?_, rfl, by show s.begun ≤ s.begun + 1; omega⟩, rfl⟩
    · show (takenL s.l x).room = _; unfold takenL; split <;> rfl
    · show (takenL s.l x).first = _; unfold takenL; split <;> rfl
  · exact ⟨Kept.refl s, rfl⟩
theorem ex_kept (s : Bk) (a o : Int) : Kept s (exL s a o) := by
  unfold exL; split
  · exact Kept.refl s
  · exact ⟨rfl, rfl, rfl, by show s.begun ≤ s.begun + 1; omega⟩
theorem tk_kept (s : Bk) : Kept s (tkL s) := by
  unfold tkL; split
  · exact ⟨rfl, rfl, rfl, by show s.begun ≤ s.begun + 1; omega⟩
  · exact Kept.refl s
/-- Behind a timeout no packet is on its way. -/
theorem ex_none {s : Bk} (hf : Fit s) (o : Int) (h : exE s (s.now + s.timeout) = 0) : (exL s (s.now + s.timeout) o).l.L = [] := by
  have he : ¬ earlyP s (s.now + s.timeout) := fun e => by rw [exE, if_pos e] at h; omega
  unfold exL
  rw [if_neg he]
  show s.l.L.filter (fun p => !isover (s.now + s.timeout) s.timeout p) = []
  refine List.filter_eq_nil_iff.2 fun p hp => ?_
  have h1 := hf.ok.tb p hp
  have h2 := hf.nl
  simp [isover]; omega
theorem exE_is {s : Bk} (hf : Fit s) : exE s (s.now + s.timeout) = if 1099511627776 < s.now + s.timeout then 10 else 0 := by
  unfold exE
  have := hf.t0
  by_cases h : 1099511627776 < s.now + s.timeout
  · rw [if_pos (show earlyP s (s.now + s.timeout) from .inr h), if_pos h]
  · rw [if_neg (show ¬ earlyP s (s.now + s.timeout) from by unfold earlyP; omega), if_neg h]
/-- An interval that is told whole. -/
theorem told_done {s : Bk} (hf : Fit s) (h0 : s.l.L = []) {m m' : Mi} {L : List Mi} (e : s.L = m :: m' :: L) :
    tkB s = true ∧ tkM s = m ∧ (tkL s).L = m' :: L ∧ (tkL s).l.L = [] ∧ doneB m = true ∧ m.hi + m.dr = m.pa ∧ m.ac + m.lo = m.se ∧ Right m ∧ (∀ x ∈ m' :: L, m.id < x.id) := by
  have ow := hf.owes m (by rw [e]; simp)
  have hd := ow.d; have ho := ow.o
  rw [h0] at hd ho
  simp only [due, owe] at hd ho
  have hlen : s.L.length = L.length + 2 := by rw [e]; rfl
  have hto : m.to ≠ -1 := by have := hf.mid 0 (by omega) (by omega); simpa only [e, List.getElem_cons_zero] using this
  have hdone : doneB m = true := by
    simp only [doneB, (right_iff m).2 ow.r, Bool.true_and, Bool.and_eq_true, decide_eq_true_eq]
    exact ⟨hto, by omega⟩
  have hb : tkB s = true := by rw [tkB, e]; exact hdone
  refine ⟨hb, by simp [tkM, hb, e], by simp [tkL, hb, e], by simp [tkL, hb, h0], hdone, by omega, by omega, ow.r, fun x hx => ?_⟩
  obtain ⟨k, hk, rfl⟩ := List.getElem_of_mem hx
  have h1 := hf.ids 0 (by omega)
  have h2 := hf.ids (k + 1) (by rw [hlen]; simp at hk; omega)
  simp only [e, List.getElem_cons_zero, List.getElem_cons_succ] at h1 h2
  rw [h1, h2]; push_cast; omega
theorem last_not {s : Bk} (hf : Fit s) (h : s.L.length ≤ 1) : tkB s = false ∧ tkM s = zeroM ∧ tkL s = s := by
  have hb : tkB s = false := by
    cases e : s.L with
    | nil => rw [tkB, e]
    | cons m L =>
      rw [e] at h
      have hL : L = [] := List.eq_nil_of_length_eq_zero (by simp at h; exact List.length_eq_zero_iff.2 h)
      subst hL
      have := hf.run 0 (by rw [e]; simp) (by rw [e]; simp)
      simp only [e, List.getElem_cons_zero] at this
      rw [tkB, e]
      simp [doneB, this.1]
  exact ⟨hb, by simp [tkM, hb], by simp [tkL, hb]⟩
theorem short_any (ao : Option Addr) (n c : Nat) (w : World) (hn : (n : Int) ≤ 9223372036854775807) : Calls Try.prog 6 #[.slice ao n c] w fun e w' => e = .returned (.bool (decide (n ≤ 150))) ∧ Below w.heap.size w w' := by
  go_enter Try.func6, Try.ntmps6
  go_wp2
  go_ret
  exact ⟨by simp <;> omega, by go_grown⟩
end Go.Proofs.Ytpaalpnoppblaaa
