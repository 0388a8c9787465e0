/-
  OrderPlaces: for any row of at most 100 numbers and any number, each number stands once in a Perm of its tape, and as many draws are taken as there are numbers, less one. No conditions.
-/
import Derived.Test.YtcaledobieopjaaO10
import Derived.Test.YtcaledobieopjaaOS
import Derived.Test.YtcaledobieopjaaRows
import Derived.WalkKit
import Derived.ProofKit
import Derived.OpenShut
import Derived.ChangeOld
import Derived.Below
import Derived.Lib.SmallJoins
namespace Go.Proofs.Ytcaledobieopjaa
open Go.RowKit
set_option linter.unusedVariables false
theorem Row.clip7 {k : IntKind} {w : World} {ao : Option Addr} {n c : Nat} {zs : List Int} (h : Row k w ao n c zs) : Row k w ao n n zs :=
  ⟨h.len, Nat.le_refl _, Nat.le_trans h.cap h.max, fun e => by have := h.nil e; have := h.cap; omega, h.wf, h.at'⟩
theorem info_mark : (Try.prog.info? 4).map (fun i => (i.zero, i.size, i.bytes)) = some (some (.bool false), 1, 1) := by kernel_rfl
theorem made_marks (n : Nat) : (madeCells (Value.cells (.bool false)) (n * 1)).toList = (List.replicate n false).map Value.bool := by
  simp only [madeCells, Value.cells, Nat.mul_one]
  apply List.ext_getElem
  · simp
  · intro i h1 h2
    simp [Nat.mod_one]
theorem own_mark {w : World} {base : Nat} {e : TypeId} {g n c : Nat} {B : List Bool} (h : w.ownsRow base e 1 (.slice (some ⟨g, 0, none⟩) n c) n (B.map Value.bool)) {j : Nat} (hj : j < n) : w.cell? ⟨g, j, none⟩ = some (.bool (B.getD j false)) := by
  have hl : B.length = n := by have := h.1; simpa using this
  rw [h.cellAt j (by omega)]
  simp [List.getD, show j < B.length by omega]
/-- The marks behind j numbers. -/
structure Marks (B : List Bool) (L : List Int) (m j : Nat) : Prop where
  len : B.length = m
  iff : ∀ v, v < m → (B.getD v false = true ↔ ∃ a, a < j ∧ L.getD a 0 = v)
theorem Marks.zero (L : List Int) (m : Nat) : Marks (List.replicate m false) L m 0 :=
  ⟨by simp, fun v hv => ⟨fun h => by simp [List.getD, hv] at h, fun ⟨a, h, _⟩ => by omega⟩⟩
theorem Marks.free {B : List Bool} {L : List Int} {m j y : Nat} (h : Marks B L m j) (hP : Places L m) (hj : j < m) (hy : L.getD j 0 = y) (hym : y < m) : B.getD y false = false := by
  cases e : B.getD y false with
  | false => rfl
  | true =>
    obtain ⟨a, h1, h2⟩ := (h.iff y hym).1 e
    have := hP.inj a j (by omega) hj (by rw [h2, hy])
    omega
theorem Marks.next {B : List Bool} {L : List Int} {m j y : Nat} (h : Marks B L m j) (hy : L.getD j 0 = y) (hym : y < m) : Marks (B.set y true) L m (j + 1) := by
  refine ⟨by simpa using h.len, fun v hv => ?_⟩
  have hl := h.len
  have e : (B.set y true).getD v false = if v = y then true else B.getD v false := by
    simp only [List.getD, List.getElem?_set]
    by_cases hc : y = v
    · subst hc; simp [show y < B.length by omega]
    · rw [if_neg hc, if_neg (fun e => hc e.symm)]
  rw [e]
  split
  · rename_i hv'; subst hv'
    exact ⟨fun _ => ⟨j, by omega, hy⟩, fun _ => rfl⟩
  · rename_i hv'
    rw [h.iff v hv]
    constructor
    · rintro ⟨a, h1, h2⟩; exact ⟨a, by omega, h2⟩
    · rintro ⟨a, h1, h2⟩
      refine ⟨a, ?_, h2⟩
      have : a ≠ j := by rintro rfl; rw [hy] at h2; omega
      omega
theorem places_at (zs : List Int) (n m : Nat) (hn : zs.length = n) (m0 : 1 ≤ m) : ∃ pv : Int, pN 2 0 zs (m - 1) = pv ∧ (((n : Int) ≤ (m : Int) - 1 ∧ pv = n) ∨ ((m : Int) - 1 < n ∧ pv = (m : Int) - 1)) := by
  refine ⟨_, rfl, ?_⟩
  rw [pN_tape, hn]
  split <;> omega
theorem sN_tape0 (j : Nat) : sN 2 0 0 j = 0 := by
  induction j with
  | zero => rfl
  | succ j ih => rw [sN_succ, ih, statev_tape]
set_option maxHeartbeats 8000000 in
set_option maxRecDepth 100000 in
theorem walk_places (ao : Option Addr) (n c : Nat) (zs : List Int) (m : Int) (m0 : -9223372036854775808 ≤ m) (m1 : m ≤ 9223372036854775807) (w : World) (hz : Row .u64 w ao n c zs) :
    Calls Try.prog 6 #[.slice ao n c, .int .i64 m] w fun e w' => e = .returned (.bool true) ∧ Below w.heap.size w w' := by
  by_cases e1 : 100 < n
  · go_enter Try.func6, Try.ntmps6
    go_wp2
    go_ret
    exact ⟨rfl, by go_grown⟩
  have T := fun w => tape_any ao n c zs w
  by_cases e2 : m < 1 ∨ 64 < m
  · have C := fun w => perm_no 2 0 0 0 ao n n zs m e2 w
    rcases e2 with e2 | e2
    all_goals
      go_enter Try.func6, Try.ntmps6
      go_wp2_with fail
      refine (T _ hz).mono ?_
      rintro e w1 ⟨rfl, hw1⟩
      clear T hz
      go_wp2_with fail
      refine (C _).mono ?_
      rintro e w2 ⟨rfl, hw2⟩
      have g2 := Below.call hw1 hw1.size hw2
      clear hw1 hw2 C
      go_wp2_with fail
      refine (ordered_any _).mono ?_
      rintro e w3 ⟨rfl, hw3⟩
      have G2 := g2.size
      have g3 : Below w.heap.size w w3 := Below.call (by go_grown) (by simp; omega) hw3
      have S : At5 w3 w2.heap.size (.int .i64 2) (.int .u64 0) (.int .u64 0) (.slice ao n n) (.int .i64 0) := At5.of hw3 (At5.fresh _ _ _ _ _ _ _)
      clear hw3 g2 G2
      generalize w2.heap.size = x2 at *
      obtain ⟨s0, s1, s2, s3, s4, sa, sb, sc, sd, se, sl⟩ := id S
      go_wp2
      go_ret
      exact ⟨rfl, g3⟩
  obtain ⟨M, rfl⟩ : ∃ M : Nat, m = (M : Int) := ⟨m.toNat, by omega⟩
  have M0 : 1 ≤ M := by omega
  have M1 : M ≤ 64 := by omega
  have C := fun w hz => perm_yes 2 0 0 0 ao n n zs M (by omega) (by omega) (by omega) (by omega) M0 M1 w hz
  have hP : Hid (Places (permN 2 0 0 0 zs M (M - 1)) M) := permN_places 2 0 0 0 zs M (M - 1) (by omega)
  obtain ⟨pv, ep, hpv⟩ := places_at zs n M hz.len M0
  have HV : Hid (((n : Int) ≤ (M : Int) - 1 ∧ pv = n) ∨ ((M : Int) - 1 < n ∧ pv = (M : Int) - 1)) := hpv
  rw [ep, sN_tape0] at C
  clear ep hpv e2 m0 m1
  generalize permN 2 0 0 0 zs M (M - 1) = L at *
  have hn : n ≤ 100 := by omega
  obtain ⟨i9, hi, hz0, hz1, hz2⟩ := info_parts info_mark
  go_enter Try.func6, Try.ntmps6
  go_wp2_with fail
  refine (T _ hz).mono ?_
  rintro e w1 ⟨rfl, hw1⟩
  have R := (hz.below hw1).clip7
  clear T hz
  go_wp2_with fail
  refine (C _ R).mono ?_
  rintro e w2 ⟨g, rfl, own, hw2⟩
  have g2 := Below.call hw1 hw1.size hw2
  have hP2 : ∀ t, t < M → w2.cell? ⟨g, t, none⟩ = some (.int .i64 (L.getD t 0)) := fun t ht => own_cell own ht
  have hgl : g < w2.heap.size := World.block_lt_of_cell? _ _ (hP2 0 (by omega))
  clear hw1 hw2 C R own
  have G2 := g2.size
  go_wp2_with (at_make; refine wpList_make_full _ rfl (.tmp 36) (.tmp 36) 49 rfl (w2.heap.size + 1) 4 i9 (.bool false) 1 Try.underlying49 hi hz0 hz1 .i64 .i64 M M M rfl rfl rfl rfl (by rw [hz2]; omega) (by unfold maxLen; omega) (by simp) ?_; intro w3 own3 gr3)
  have own4 : w3.ownsRow (w2.heap.size + 1) 4 1 (.slice (some ⟨w2.heap.size + 1, 0, none⟩) M M) M ((List.replicate M false).map Value.bool) := by rw [← made_marks]; simpa using own3
  have hPa : ∀ t, t < M → w3.cell? ⟨g, t, none⟩ = some (.int .i64 (L.getD t 0)) := fun t ht => by
    have e := gr3.block g (by simp; omega) (by simp)
    rw [World.cell?_of_block e]
    exact ((Below.refl _ _).alloc (Nat.le_refl _) _ : Below w2.heap.size w2 _).cell (p := ⟨g, t, none⟩) hgl |>.trans (hP2 t ht)
  have S : At5 w3 w2.heap.size (.int .i64 2) (.int .u64 0) (.int .u64 0) (.slice ao n n) (.int .i64 pv) := (At5.fresh _ _ _ _ _ _ _).grown gr3 (by simp)
  have g3 : Below w.heap.size w w3 := Below.grown (by go_grown) gr3 (by simp; omega) (by simp)
  have hgx : g ≠ w2.heap.size + 1 := by omega
  have hws : w.heap.size ≤ w2.heap.size := G2
  clear own3 gr3 g2 hP2 hgl G2
  generalize w2.heap.size = x2 at *
  go_loopw [8] (fun i' wr => ∃ (j : Nat) (B : List Bool), j ≤ M ∧ i' = .int .i64 j ∧ Hid (Marks B L M j) ∧ wr.ownsRow (x2 + 1) 4 1 (.slice (some ⟨x2 + 1, 0, none⟩) M M) M (B.map Value.bool) ∧
      (∀ t, t < M → wr.cell? ⟨g, t, none⟩ = some (.int .i64 (L.getD t 0))) ∧ At5 wr x2 (.int .i64 2) (.int .u64 0) (.int .u64 0) (.slice ao n n) (.int .i64 pv) ∧ Below w.heap.size w wr) (fun i' _ => M - (intOf i').toNat)
  case atStart => exact ⟨0, _, by omega, rfl, Marks.zero L M, own4, hPa, S, g3⟩
  case round =>
    obtain ⟨j, B, hj, rfl, HM, own, hc, S', hb⟩ := hrel
    clear own4 hPa S g3
    by_cases hlt : j < M
    · obtain ⟨Y, hY, hYm⟩ : ∃ Y : Nat, L.getD j 0 = (Y : Int) ∧ Y < M := by
        have b := hP.out.bd j hlt
        exact ⟨(L.getD j 0).toNat, by omega, by omega⟩
      have c1 := hc j hlt
      rw [hY] at c1
      have c2 := own_mark own hYm
      rw [HM.out.free hP.out hlt hY hYm] at c2
      have f2 := own.frozenAt Y
      have own2 := (own.stored Y (.bool true)).1
      rw [← List.map_set] at own2
      have NM : Hid (Marks (B.set Y true) L M (j + 1)) := HM.out.next hY hYm
      have hc2 : ∀ t, t < M → (wr.setCell ⟨x2 + 1, Y, none⟩ (.bool true)).cell? ⟨g, t, none⟩ = some (.int .i64 (L.getD t 0)) := fun t ht =>
        (World.cell?_setCell_other wr ⟨x2 + 1, Y, none⟩ ⟨g, t, none⟩ _ (fun e => by simp only [Addr.mk.injEq] at e; omega)).trans (hc t ht)
      have S2 := S'.other (a := ⟨x2 + 1, Y, none⟩) (by simp) (.bool true)
      have hY2 : (Y : Int) < M := by omega
      have hb2 : Below w.heap.size w (wr.setCell ⟨x2 + 1, Y, none⟩ (.bool true)) := hb.setCell (by simp; omega) _
      clear hc own S' HM hY hb
      go_wp2
      go_roundw
      case rel => exact ⟨j + 1, _, by omega, by go_num, NM, own2, hc2, S2, hb2⟩
      case measure => simp [intOf]; omega
    · obtain rfl : j = M := by omega
      clear own hc HM hP
      go_wp2_with fail
      refine (ordered_any _).mono ?_
      rintro e w5 ⟨rfl, hw5⟩
      have g5 := Below.call hb hb.size hw5
      have S5 := At5.of hw5 S'
      obtain ⟨s0, s1, s2, s3, s4, sa, sb, sc, sd, se, sl⟩ := id S5
      clear S' S5 hb hw5
      rcases HV.out with ⟨h1, rfl⟩ | ⟨h1, rfl⟩
      · go_wp2
        go_ret
        exact ⟨rfl, g5⟩
      · have h2 : ¬ (n : Int) ≤ (j : Int) - 1 := by omega
        go_wp2
        go_ret
        exact ⟨rfl, g5⟩
end Go.Proofs.Ytcaledobieopjaa
namespace Go.Proofs.Ytcaledobieopjaa.orderPlaces
open Go.ChangeShapes Go.WideShapes Go.ChangeAt Go.RowKit Go.Joins
set_option linter.unusedVariables false

theorem own : ownKnob Try.prog.godebug = none := by kernel_rfl
theorem laidOut : laidOutB Try.prog = true := by kernel_rfl
theorem word_of {x : Int} (h : (Lit.int .u64 x).wf = true) : 0 ≤ x ∧ x ≤ 18446744073709551615 := by
  simp [Lit.wf, IntKind.min, IntKind.max, IntKind.signed, IntKind.bits] at h
  exact ⟨by omega, by omega⟩
theorem int_of {x : Int} (h : (Lit.int .i64 x).wf = true) : -9223372036854775808 ≤ x ∧ x ≤ 9223372036854775807 := by
  simp [Lit.wf, IntKind.min, IntKind.max, IntKind.signed, IntKind.bits] at h
  exact ⟨by omega, by omega⟩

set_option maxRecDepth 100000 in
theorem lifted (os : Os) (started : os.Started) (H : Type) (enc : TypeId × Value → H) :
    ReturnsInHanded {} Try.checked os 6 .any (Rows.orderPlacesSpec.pre6 enc Try.prog Try.f6 Rows.orderPlacesRow.domain false) (Rows.orderPlacesSpec.post enc Try.prog Try.f6 false true false false) := by
  refine returnsInHanded_of_change (C := Try.checked) own started (by kernel_rfl) Try.func6
    (ChangeSpec.witness6 (enc := enc) (C := Try.checked) false ⟨#[], #[.slice none 0 0, .int .i64 0], []⟩ 8 (by kernel_rfl) (by kernel_rfl) (by kernel_rfl) (by kernel_rfl)) ?_
  intro W base args ds gs before hval0 hW hcnd _
  have hval : ∀ (j : Nat) t v, Try.f6.params[j]? = some t → args[j]? = some v → Value.okWide Try.prog W .any base t v := hval0
  have hW' := hW
  obtain ⟨p, q, hA0, hV, rfl, hfz, hnd⟩ := hW
  have hA : DataW.TrodAll enc Try.prog W 0 (fun _ => true) true Try.f6.params.toList args.toList ds p := hA0
  rw [Try.params6] at hA hval
  obtain ⟨v0, vs0, d0, ds0, p0, q0, hargs, rfl, rfl, h0, r0⟩ := trodAll_cons hA
  obtain ⟨v1, vs1, d1, ds1, p1, q1, rfl, rfl, rfl, h1, r1⟩ := trodAll_cons r0
  obtain ⟨rfl, rfl, rfl⟩ := trodAll_nil r1
  obtain rfl : args = #[v0, v1] := by cases args; simp_all
  obtain ⟨rfl, rfl⟩ := trodVars_none hV
  have k0 := h0
  have lt0 : ∀ x ∈ p0, x.block < W.heap.size := by obtain ⟨m, hm⟩ := k0; exact DataW.trod_lt m _ _ _ hm
  obtain ⟨ao_0, n_0, c_0, zs_0, rfl, hz0⟩ := open_row64 (hval 0 24 v0 rfl rfl) h0
  obtain ⟨a1, rfl, rfl, rfl, w1⟩ := open_int Try.underlying3 (hval 1 3 v1 rfl rfl) h1
  clear hA0 hval0
  refine (walk_places ao_0 n_0 c_0 zs_0 a1 (int_of w1).1 (int_of w1).2 W hz0).mono fun e W' ⟨he, bel⟩ => ?_
  subst he
  exact ⟨_, rfl, _, _, _, [], _, [], hW', trodAll_mk1 (shut_bool Try.underlying4 _), (trodAll_cons_mk (Below.trod laidOut (by kernel_rfl) (of_decide_eq_true (by kernel_rfl)) k0 bel lt0) (trodAll_cons_mk (shut_int Try.underlying3 w1) trodAll_mk0)), rfl, bel.frame _, fun h => by cases h⟩

theorem over : Rows.orderPlacesRow.holds Try.pinned (OpenSpec.ofChange Rows.orderPlacesSpec) :=
  OpenClaim.holds_of_wide 6 Try.f6 rfl rfl rfl rfl rfl rfl rfl ⟨rfl, rfl, rfl, rfl, rfl⟩ rfl rfl rfl rfl rfl (by kernel_rfl) Try.func6 (by kernel_rfl)
    (of_decide_eq_true (by kernel_rfl)) (by unfold Func.isWrapper; first | (rw [if_pos (by decide +kernel)]; kernel_rfl) | (rw [if_neg (by decide +kernel)]; exact ⟨rfl, rfl⟩))
    (fun os started H enc _ => lifted os started H enc)
theorem proved : Rows.OrderPlacesSaid := over
#print axioms proved
end Go.Proofs.Ytcaledobieopjaa.orderPlaces
