/-
  The reference's books: a packet is sent. No conditions but the books' own.
  The reference's books: an interval begins. No conditions but the books' own.
  The reference's books: an account looked for, and put. No conditions but the books' own.
  The reference's books in memory; a time that is refused; an account looked for, and put. No conditions but the books' own.
-/
import Derived.Test.YtpaalpnoppblaaaZ2
import Derived.Test.YtpaalpnoppblaaaZ6
import Derived.Test.YtpaalpnoppblaaaZ6b
import Derived.Test.YtpaalpnoppblaaaU20
import Derived.Deep.QuietTactic
import Derived.Test.YtpaalpnoppblaaaU10
import Derived.Deep.RegionHeld3
import Derived.Deep.RegionWith
/-! Z13 -/
namespace Go.Proofs.Ytpaalpnoppblaaa
open Go.RowKit Go.Maps
set_option linter.unusedVariables false
set_option maxRecDepth 8000
def rcells (lb : Nat) (ao : Option Addr) (c : Nat) (s : Bk) : List Value := [.pointer (some ⟨lb, 0, none⟩), .slice ao s.L.length c, .int .i64 s.begun, .int .i64 s.timeout, .int .i64 s.now]
/-- The reference's books in memory, with all their blocks in S. -/
structure Rks (w : World) (rb lb B : Nat) (lv : Value) (ao : Option Addr) (g o c : Nat) (S : List Nat) (s : Bk) : Prop where
  ob : Ob w rb (rcells lb ao c s)
  led : RLed B lb w lv s.l
  row : Mis w ao g o s.L.length c s.L
  n1 : rb ≠ lb
  nv : ∀ k, lv.ownBlock = some k → k ≠ rb ∧ k ≠ lb ∧ k ∈ S
  ng : 0 < c → g ≠ rb ∧ g ≠ lb ∧ lv.ownBlock ≠ some g ∧ g ∈ S
  m1 : rb ∈ S
  m2 : lb ∈ S
  low : ∀ k ∈ S, k < w.heap.size
def Rka (w : World) (rb : Nat) (S : List Nat) (s : Bk) : Prop := ∃ lb B lv ao g o c, Rks w rb lb B lv ao g o c S s
section
variable {w w1 : World} {rb lb B : Nat} {lv : Value} {ao : Option Addr} {g o c : Nat} {S : List Nat} {s : Bk}
theorem Rks.far {T : List Nat} (h : Rks w rb lb B lv ao g o c S s) (F : Far T w w1) (hT : ∀ k ∈ S, k ∉ T) : Rks w1 rb lb B lv ao g o c S s :=
  ⟨h.ob.far F (hT _ h.m1), h.led.far2 F (fun k e => hT _ (h.nv k e).2.2) (hT _ h.m2), h.row.far F (fun hc => hT _ (h.ng hc).2.2.2), h.n1, h.nv, h.ng, h.m1, h.m2, fun k hk => Nat.lt_of_lt_of_le (h.low k hk) F.size⟩
theorem Rks.below (h : Rks w rb lb B lv ao g o c S s) (k : Below w.heap.size w w1) : Rks w1 rb lb B lv ao g o c S s := h.far (Far.of_below k) (fun _ _ => by simp)
theorem Rka.far {T : List Nat} (h : Rka w rb S s) (F : Far T w w1) (hT : ∀ k ∈ S, k ∉ T) : Rka w1 rb S s := by
  obtain ⟨lb, B, lv, ao, g, o, c, h⟩ := h
  exact ⟨lb, B, lv, ao, g, o, c, h.far F hT⟩
theorem Rka.below (h : Rka w rb S s) (k : Below w.heap.size w w1) : Rka w1 rb S s := h.far (Far.of_below k) (fun _ _ => by simp)
theorem Rka.low (h : Rka w rb S s) : ∀ k ∈ S, k < w.heap.size := by
  obtain ⟨lb, B, lv, ao, g, o, c, h⟩ := h
  exact h.low
theorem Rka.mem (h : Rka w rb S s) : rb ∈ S := by
  obtain ⟨lb, B, lv, ao, g, o, c, h⟩ := h
  exact h.m1
theorem Rks.cells (h : Rks w rb lb B lv ao g o c S s) : w.cell? ⟨rb, 0, none⟩ = some (.pointer (some ⟨lb, 0, none⟩)) ∧ w.cell? ⟨rb, 1, none⟩ = some (.slice ao s.L.length c) ∧ w.cell? ⟨rb, 2, none⟩ = some (.int .i64 s.begun) ∧
    w.cell? ⟨rb, 3, none⟩ = some (.int .i64 s.timeout) ∧ w.cell? ⟨rb, 4, none⟩ = some (.int .i64 s.now) ∧ (∀ o, w.frozen? ⟨rb, o, none⟩ = false) :=
  ⟨h.ob.cell rfl, h.ob.cell rfl, h.ob.cell rfl, h.ob.cell rfl, h.ob.cell rfl, h.ob.f⟩
/-- Books with another ledger. -/
theorem Rks.ledger (h : Rks w rb lb B lv ao g o c S s) {T : List Nat} {l : Lg} {lv' : Value} (F : Far T w w1) (hT : ∀ k ∈ T, k = lb ∨ lv.ownBlock = some k) (H : RLed B lb w1 lv' l) (hv : ∀ k, lv'.ownBlock = some k → lv.ownBlock = some k ∨ w.heap.size ≤ k) :
    ∃ S', Rks w1 rb lb B lv' ao g o c S' { s with l := l } ∧ Goes S S' w w1 := by
  have n1 := h.n1
  have hl1 := h.low _ h.m1
  have hl2 := h.low _ h.m2
  have hTS : ∀ k ∈ T, k ∈ S := fun k hk => by
    rcases hT k hk with rfl | e
    · exact h.m2
    · exact (h.nv k e).2.2
  have hrb : rb ∉ T := fun hm => by
    rcases hT _ hm with e | e
    · exact n1 e
    · exact (h.nv _ e).1 rfl
  have hgT : 0 < c → g ∉ T := fun hc hm => by
    rcases hT _ hm with e | e
    · exact (h.ng hc).2.1 e
    · exact (h.ng hc).2.2.1 e
  refine ⟨lv'.ownBlock.toList ++ S, ⟨h.ob.far F hrb, H, h.row.far F hgT, n1, fun k e => ?_, fun hc => ⟨(h.ng hc).1, (h.ng hc).2.1, fun e => ?_, by simp [(h.ng hc).2.2.2]⟩, by simp [h.m1], by simp [h.m2], fun k hk => ?_⟩, ⟨F.mono hTS, fun k hk => ?_⟩⟩
  · refine ⟨?_, ?_, by simp [e]⟩
    · rcases hv k e with h1 | h1
      · exact (h.nv k h1).1
      · omega
    · rcases hv k e with h1 | h1
      · exact (h.nv k h1).2.1
      · omega
  · rcases hv g e with h1 | h1
    · exact (h.ng hc).2.2.1 h1
    · have := h.low _ (h.ng hc).2.2.2; omega
  · rcases List.mem_append.1 hk with hk | hk
    · rw [Option.mem_toList] at hk; exact (own_lt H.row hk).1
    · exact Nat.lt_of_lt_of_le (h.low k hk) F.size
  · rcases List.mem_append.1 hk with hk | hk
    · rw [Option.mem_toList] at hk
      rcases hv k hk with h1 | h1
      · exact .inl (h.nv k h1).2.2
      · exact .inr h1
    · exact .inl hk
/-- Now turned. -/
theorem Rks.tick (h : Rks w rb lb B lv ao g o c S s) (a : Int) : Rks (w.setCell ⟨rb, 4, none⟩ (.int .i64 a)) rb lb B lv ao g o c S { s with now := a } ∧ Far [rb] w (w.setCell ⟨rb, 4, none⟩ (.int .i64 a)) := by
  have F : Far [rb] w (w.setCell ⟨rb, 4, none⟩ (.int .i64 a)) := (Far.refl _ _).setCell (.inr (by simp)) _ _
  have T := Turn.cell h.ob (o := 4) (v := .int .i64 a) (us := rcells lb ao c { s with now := a }) (by unfold rcells; repeat (first | exact SetAt.z | apply SetAt.s))
  exact ⟨⟨T.here, h.led.far2 F (fun k e => by simp; exact (h.nv k e).1) (by simp; exact h.n1.symm), h.row.far F (fun hc => by simp; exact (h.ng hc).1), h.n1, h.nv, h.ng, h.m1, h.m2, fun k hk => by rw [World.size_setCell]; exact h.low k hk⟩, F⟩
theorem Rks.bump (h : Rks w rb lb B lv ao g o c S s) (x : Int) : Rks (w.setCell ⟨rb, 2, none⟩ (.int .i64 x)) rb lb B lv ao g o c S { s with begun := x } ∧ Far [rb] w (w.setCell ⟨rb, 2, none⟩ (.int .i64 x)) := by
  have F : Far [rb] w (w.setCell ⟨rb, 2, none⟩ (.int .i64 x)) := (Far.refl _ _).setCell (.inr (by simp)) _ _
  have T := Turn.cell h.ob (o := 2) (v := .int .i64 x) (us := rcells lb ao c { s with begun := x }) (by unfold rcells; repeat (first | exact SetAt.z | apply SetAt.s))
  exact ⟨⟨T.here, h.led.far2 F (fun k e => by simp; exact (h.nv k e).1) (by simp; exact h.n1.symm), h.row.far F (fun hc => by simp; exact (h.ng hc).1), h.n1, h.nv, h.ng, h.m1, h.m2, fun k hk => by rw [World.size_setCell]; exact h.low k hk⟩, F⟩
/-- Another row of intervals, that no other block of theirs is. -/
theorem Rks.rerow (h : Rks w rb lb B lv ao g o c S s) {w' : World} {T : List Nat} (F : Far T w w') (hT : ∀ k ∈ T, k ∉ [rb, lb] ∧ lv.ownBlock ≠ some k) (hTS : ∀ k ∈ T, k ∈ S) {ao' : Option Addr} {g' o' c' : Nat} {L' : List Mi} (hM : Mis w' ao' g' o' L'.length c' L') (hg : 0 < c' → (g' = g ∧ 0 < c) ∨ w.heap.size ≤ g') :
    ∃ S', Rks (w'.setCell ⟨rb, 1, none⟩ (.slice ao' L'.length c')) rb lb B lv ao' g' o' c' S' { s with L := L' } ∧ Goes S S' w (w'.setCell ⟨rb, 1, none⟩ (.slice ao' L'.length c')) := by
  have hl1 := h.low _ h.m1
  have hl2 := h.low _ h.m2
  have OB := h.ob.far F (fun hm => (hT _ hm).1 (by simp))
  have LD := h.led.far2 F (fun k e hm => (hT _ hm).2 e) (fun hm => (hT _ hm).1 (by simp))
  have T' := Turn.cell OB (o := 1) (v := .slice ao' L'.length c') (us := rcells lb ao' c' { s with L := L' }) (by unfold rcells; repeat (first | exact SetAt.z | apply SetAt.s))
  have F2 : Far [rb] w' (w'.setCell ⟨rb, 1, none⟩ (.slice ao' L'.length c')) := (Far.refl _ _).setCell (.inr (by simp)) _ _
  have hgg : 0 < c' → g' ≠ rb ∧ g' ≠ lb ∧ lv.ownBlock ≠ some g' := fun hc => by
    rcases hg hc with ⟨rfl, h1⟩ | h1
    · have := h.ng h1; exact ⟨this.1, this.2.1, this.2.2.1⟩
    · exact ⟨by omega, by omega, fun e => by have := h.low _ (h.nv _ e).2.2; omega⟩
  refine ⟨(if 0 < c' then [g'] else []) ++ S, ⟨T'.here, LD.far2 F2 (fun k e => by simp; exact (h.nv k e).1) (by simp; exact h.n1.symm), hM.far F2 (fun hc => by simp; exact (hgg hc).1), h.n1, fun k e => ⟨(h.nv k e).1, (h.nv k e).2.1, by simp [(h.nv k e).2.2]⟩, fun hc => ⟨(hgg hc).1, (hgg hc).2.1, (hgg hc).2.2, by simp [hc]⟩, by simp [h.m1], by simp [h.m2], fun k hk => ?_⟩, ⟨(F.mono hTS).trans (F2.mono (by simp; exact h.m1)), fun k hk => ?_⟩⟩
  · rw [World.size_setCell]
    rcases List.mem_append.1 hk with hk | hk
    · split at hk
      · rename_i hc; rw [List.mem_singleton] at hk; rw [hk]; exact hM.lt hc
      · cases hk
    · exact Nat.lt_of_lt_of_le (h.low k hk) F.size
  · rcases List.mem_append.1 hk with hk | hk
    · split at hk
      · rename_i hc
        rw [List.mem_singleton] at hk
        subst hk
        rcases hg hc with ⟨rfl, h1⟩ | h1
        · exact .inl (h.ng h1).2.2.2
        · exact .inr h1
      · cases hk
    · exact .inl hk
end
theorem rearly_any (rb lb B : Nat) (lv : Value) (ao : Option Addr) (g o c : Nat) (S : List Nat) (s : Bk) (h0 : 0 ≤ s.now) (a : Int) (w : World) (H : Rks w rb lb B lv ao g o c S s) :
    Calls Try.prog 47 #[.pointer (some ⟨rb, 0, none⟩), .int .i64 a] w fun e w' => e = .returned (.bool (decide (earlyP s a))) ∧ Below w.heap.size w w' := by
  obtain ⟨c0, c1, c2, c3, c4, fz⟩ := H.cells
  have T := time_any a w
  go_enter Try.func47, Try.ntmps47
  by_cases h1 : 0 ≤ a ∧ a ≤ 1099511627776
  · rw [show decide (0 ≤ a ∧ a ≤ 1099511627776) = true from decide_eq_true h1] at T
    go_wp2_with fail
    refine T.mono ?_
    rintro e w1 ⟨rfl, rfl⟩
    go_wp2_with fail
    go_ret
    refine ⟨?_, by go_grown⟩
    have e : (earlyP s a) ↔ a < s.now := by unfold earlyP; omega
    simp [e]
  · rw [show decide (0 ≤ a ∧ a ≤ 1099511627776) = false from decide_eq_false h1] at T
    go_wp2_with fail
    refine T.mono ?_
    rintro e w1 ⟨rfl, rfl⟩
    go_wp2_with fail
    go_ret
    refine ⟨?_, by go_grown⟩
    have e : earlyP s a := by unfold earlyP; omega
    simp [e]
end Go.Proofs.Ytpaalpnoppblaaa

/-! Z14 -/
namespace Go.Proofs.Ytpaalpnoppblaaa
open Go.RowKit Go.Maps
set_option linter.unusedVariables false
set_option maxRecDepth 8000
def ofL (L : List Mi) (i : Int) : Mi := (L.find? fun m => decide (m.id = i)).getD zeroM
theorem ofL_at {L : List Mi} {i : Int} {k : Nat} (hk : k < L.length) (he : (L[k]).id = i) (hno : ∀ q ∈ L.take k, q.id ≠ i) : ofL L i = L[k] := by
  unfold ofL
  have e : L = L.take k ++ L[k] :: L.drop (k + 1) := by rw [← List.drop_eq_getElem_cons hk, List.take_append_drop]
  have h1 : (L.take k).find? (fun m => decide (m.id = i)) = none := List.find?_eq_none.2 fun q hq => by simpa using hno q hq
  have h2 : L.find? (fun m => decide (m.id = i)) = some L[k] := by
    conv => lhs; rw [e]
    rw [List.find?_append, h1, Option.none_or, List.find?_cons_of_pos (by simpa using he)]
  rw [h2]; rfl
theorem ofL_no {L : List Mi} {i : Int} (hno : ∀ q ∈ L, q.id ≠ i) : ofL L i = zeroM := by
  unfold ofL
  rw [List.find?_eq_none.2 fun q hq => by simpa using hno q hq]; rfl
attribute [local go_sem ↓] ldM_shut bsM_shut
set_option maxHeartbeats 2000000 in
theorem rof_any (rb lb B : Nat) (lv : Value) (ao : Option Addr) (g o c : Nat) (S : List Nat) (s : Bk) (i : Int) (w : World) (HR : Rks w rb lb B lv ao g o c S s) :
    Calls Try.prog 55 #[.pointer (some ⟨rb, 0, none⟩), .int .i64 i] w fun e w' => e = .returned (.agg #[.int .i64 (ofL s.L i).id, .int .i64 (ofL s.L i).fr, .int .i64 (ofL s.L i).to, .int .i64 (ofL s.L i).se, .int .i64 (ofL s.L i).ac, .int .i64 (ofL s.L i).lo, .int .i64 (ofL s.L i).pa, .int .i64 (ofL s.L i).hi, .int .i64 (ofL s.L i).dr, .int .i64 (ofL s.L i).n, .int .i64 (ofL s.L i).st, .int .i64 (ofL s.L i).sr, .int .i64 (ofL s.L i).tt, .int .i64 (ofL s.L i).tr, .int .i64 (ofL s.L i).rr]) ∧ Below w.heap.size w w' := by
  have H := Heap.nil w
  have hcap := HR.row.cap; have hmax := HR.row.max
  have hmx : maxLen = 9223372036854775807 := rfl
  go_enter Try.func55, Try.ntmps55
  go_upto_region 2 with (first | ((first | ((with_reducible refine at_plain ?_); intro K hK) | go_guarded); first | ((with_reducible refine at_ld ?_); first | (refine wpH_ldA (ty := 63) rfl rfl H (by repeat (first | exact Found.here | apply Found.there)) (by exact row63) ?_) | (refine wpH_ldA (ty := 89) rfl rfl H (by repeat (first | exact Found.here | apply Found.there)) (by exact row89) ?_) | (refine wpH_ldA (ty := 109) rfl rfl H (by repeat (first | exact Found.here | apply Found.there)) (by exact row109) ?_) | (refine wpH_ldA (ty := 57) rfl rfl H (by repeat (first | exact Found.here | apply Found.there)) (by exact row57) ?_) | (refine wpH_ld1 (ty := 3) rfl rfl H (by repeat (first | exact Found.here | apply Found.there)) one3 (by rfl) ?_) | (refine wpH_ld1 (ty := 4) rfl rfl H (by repeat (first | exact Found.here | apply Found.there)) one4 (by rfl) ?_) | (refine wpH_ld1 (ty := 26) rfl rfl H (by repeat (first | exact Found.here | apply Found.there)) one26 (by rfl) ?_) | (refine wpH_ld1 (ty := 22) rfl rfl H (by repeat (first | exact Found.here | apply Found.there)) one22 (by rfl) ?_) | (refine wpH_ld1 (ty := 91) rfl rfl H (by repeat (first | exact Found.here | apply Found.there)) one91 (by rfl) ?_)) | ((with_reducible refine at_st ?_); first | (refine wpH_st1 (ty := 3) (v := .int _ _) rfl rfl rfl rfl rfl H one3 (by repeat (first | exact Found.here | apply Found.there)) (by repeat (first | exact SetAt.z | apply SetAt.s)) (by repeat (first | exact Turned.here | apply Turned.there)) ?_; clear H; intro wN H) | (refine wpH_st1 (ty := 4) (v := .int _ _) rfl rfl rfl rfl rfl H one4 (by repeat (first | exact Found.here | apply Found.there)) (by repeat (first | exact SetAt.z | apply SetAt.s)) (by repeat (first | exact Turned.here | apply Turned.there)) ?_; clear H; intro wN H) | (refine wpH_st1 (ty := 26) (v := .int _ _) rfl rfl rfl rfl rfl H one26 (by repeat (first | exact Found.here | apply Found.there)) (by repeat (first | exact SetAt.z | apply SetAt.s)) (by repeat (first | exact Turned.here | apply Turned.there)) ?_; clear H; intro wN H) | (refine wpH_st1 (ty := 22) (v := .int _ _) rfl rfl rfl rfl rfl H one22 (by repeat (first | exact Found.here | apply Found.there)) (by repeat (first | exact SetAt.z | apply SetAt.s)) (by repeat (first | exact Turned.here | apply Turned.there)) ?_; clear H; intro wN H) | (refine wpH_st1 (ty := 91) (v := .int _ _) rfl rfl rfl rfl rfl H one91 (by repeat (first | exact Found.here | apply Found.there)) (by repeat (first | exact SetAt.z | apply SetAt.s)) (by repeat (first | exact Turned.here | apply Turned.there)) ?_; clear H; intro wN H) | (refine wpH_stA (ty := 63) rfl rfl rfl H (by repeat (first | exact Turned.here | apply Turned.there)) (by exact row63) (by rfl) (by kernel_rfl) ?_; clear H; intro wN H) | (refine wpH_stA (ty := 89) rfl rfl rfl H (by repeat (first | exact Turned.here | apply Turned.there)) (by exact row89) (by rfl) (by kernel_rfl) ?_; clear H; intro wN H) | (refine wpH_stA (ty := 109) rfl rfl rfl H (by repeat (first | exact Turned.here | apply Turned.there)) (by exact row109) (by rfl) (by kernel_rfl) ?_; clear H; intro wN H) | (refine wpH_stA (ty := 57) rfl rfl rfl H (by repeat (first | exact Turned.here | apply Turned.there)) (by exact row57) (by rfl) (by kernel_rfl) ?_; clear H; intro wN H)) | ((with_reducible refine at_al ?_); refine wpH_al rfl (by first | exact zero63 | exact zero89 | exact zero109 | exact zero57) H ?_; clear H; intro bN wN H) | ((with_reducible refine at_bx ?_); refine wpH_bxA rfl rfl H ?_; clear H; intro bN wN H)) | fail)
  go_loopw [5] (fun v5 wr => ∃ k : Nat, k ≤ s.L.length ∧ v5 = .int .i64 k ∧ (∀ q ∈ s.L.take k, q.id ≠ i) ∧ Heap w wr [(bN, [.int .i64 zeroM.id, .int .i64 zeroM.fr, .int .i64 zeroM.to, .int .i64 zeroM.se, .int .i64 zeroM.ac, .int .i64 zeroM.lo, .int .i64 zeroM.pa, .int .i64 zeroM.hi, .int .i64 zeroM.dr, .int .i64 zeroM.n, .int .i64 zeroM.st, .int .i64 zeroM.sr, .int .i64 zeroM.tt, .int .i64 zeroM.tr, .int .i64 zeroM.rr])]) (fun v5 _ => s.L.length - (intOf v5).toNat)
  case atStart => exact ⟨0, Nat.zero_le _, rfl, by simp, H⟩
  case round =>
    clear H
    obtain ⟨k, hk, rfl, hno, H⟩ := hrel
    have HRr := HR.below H.grown
    obtain ⟨c0, c1, c2, c3, c4, fz⟩ := HRr.cells
    by_cases hkn : k < s.L.length
    · obtain ⟨rfl, hg⟩ := HR.row.value hkn
      obtain ⟨m, hm⟩ : ∃ m, s.L[k] = m := ⟨_, rfl⟩
      have hel := HRr.row.els k hkn
      rw [hm] at hel
      have e0 : wr.cell? ⟨g, o + k * 15, none⟩ = some (.int .i64 m.id) := by simpa using hel 0 _ rfl
      have hM := ldM_run hel
      have HM : Hid (s.L[k] = m) := hm
      clear hm hel
      by_cases he : m.id = i
      · have HO : Hid (ofL s.L i = m) := (ofL_at hkn (by rw [HM.out]; exact he) hno).trans HM.out
        have he2 : (m.id == i) = true := by simpa using he
        clear he
        go_wp2_with (first | ((first | ((with_reducible refine at_plain ?_); intro K hK) | go_guarded); first | ((with_reducible refine at_ld ?_); first | (refine wpH_ldA (ty := 63) rfl rfl H (by repeat (first | exact Found.here | apply Found.there)) (by exact row63) ?_) | (refine wpH_ldA (ty := 89) rfl rfl H (by repeat (first | exact Found.here | apply Found.there)) (by exact row89) ?_) | (refine wpH_ldA (ty := 109) rfl rfl H (by repeat (first | exact Found.here | apply Found.there)) (by exact row109) ?_) | (refine wpH_ldA (ty := 57) rfl rfl H (by repeat (first | exact Found.here | apply Found.there)) (by exact row57) ?_) | (refine wpH_ld1 (ty := 3) rfl rfl H (by repeat (first | exact Found.here | apply Found.there)) one3 (by rfl) ?_) | (refine wpH_ld1 (ty := 4) rfl rfl H (by repeat (first | exact Found.here | apply Found.there)) one4 (by rfl) ?_) | (refine wpH_ld1 (ty := 26) rfl rfl H (by repeat (first | exact Found.here | apply Found.there)) one26 (by rfl) ?_) | (refine wpH_ld1 (ty := 22) rfl rfl H (by repeat (first | exact Found.here | apply Found.there)) one22 (by rfl) ?_) | (refine wpH_ld1 (ty := 91) rfl rfl H (by repeat (first | exact Found.here | apply Found.there)) one91 (by rfl) ?_)) | ((with_reducible refine at_st ?_); first | (refine wpH_st1 (ty := 3) (v := .int _ _) rfl rfl rfl rfl rfl H one3 (by repeat (first | exact Found.here | apply Found.there)) (by repeat (first | exact SetAt.z | apply SetAt.s)) (by repeat (first | exact Turned.here | apply Turned.there)) ?_; clear H; intro wN H) | (refine wpH_st1 (ty := 4) (v := .int _ _) rfl rfl rfl rfl rfl H one4 (by repeat (first | exact Found.here | apply Found.there)) (by repeat (first | exact SetAt.z | apply SetAt.s)) (by repeat (first | exact Turned.here | apply Turned.there)) ?_; clear H; intro wN H) | (refine wpH_st1 (ty := 26) (v := .int _ _) rfl rfl rfl rfl rfl H one26 (by repeat (first | exact Found.here | apply Found.there)) (by repeat (first | exact SetAt.z | apply SetAt.s)) (by repeat (first | exact Turned.here | apply Turned.there)) ?_; clear H; intro wN H) | (refine wpH_st1 (ty := 22) (v := .int _ _) rfl rfl rfl rfl rfl H one22 (by repeat (first | exact Found.here | apply Found.there)) (by repeat (first | exact SetAt.z | apply SetAt.s)) (by repeat (first | exact Turned.here | apply Turned.there)) ?_; clear H; intro wN H) | (refine wpH_st1 (ty := 91) (v := .int _ _) rfl rfl rfl rfl rfl H one91 (by repeat (first | exact Found.here | apply Found.there)) (by repeat (first | exact SetAt.z | apply SetAt.s)) (by repeat (first | exact Turned.here | apply Turned.there)) ?_; clear H; intro wN H) | (refine wpH_stA (ty := 63) rfl rfl rfl H (by repeat (first | exact Turned.here | apply Turned.there)) (by exact row63) (by rfl) (by kernel_rfl) ?_; clear H; intro wN H) | (refine wpH_stA (ty := 89) rfl rfl rfl H (by repeat (first | exact Turned.here | apply Turned.there)) (by exact row89) (by rfl) (by kernel_rfl) ?_; clear H; intro wN H) | (refine wpH_stA (ty := 109) rfl rfl rfl H (by repeat (first | exact Turned.here | apply Turned.there)) (by exact row109) (by rfl) (by kernel_rfl) ?_; clear H; intro wN H) | (refine wpH_stA (ty := 57) rfl rfl rfl H (by repeat (first | exact Turned.here | apply Turned.there)) (by exact row57) (by rfl) (by kernel_rfl) ?_; clear H; intro wN H)) | ((with_reducible refine at_al ?_); refine wpH_al rfl (by first | exact zero63 | exact zero89 | exact zero109 | exact zero57) H ?_; clear H; intro bN wN H) | ((with_reducible refine at_bx ?_); refine wpH_bxA rfl rfl H ?_; clear H; intro bN wN H)) | fail)
        rw [HO.out]
        exact bodyPost_ret (results_H1 rfl H (by repeat (first | exact Found.here | apply Found.there)) (by first | exact row63 | exact row89 | exact row109 | exact row57) rfl) rfl ⟨rfl, H.grown⟩
      · have hno2 : ∀ q ∈ s.L.take (k + 1), q.id ≠ i := fun q hq => by
          rw [List.take_succ_eq_append_getElem hkn, HM.out] at hq
          rcases List.mem_append.1 hq with hq | hq
          · exact hno q hq
          · rw [List.mem_singleton] at hq; subst hq; exact he
        clear hno
        go_wp2_with (first | ((first | ((with_reducible refine at_plain ?_); intro K hK) | go_guarded); first | ((with_reducible refine at_ld ?_); first | (refine wpH_ldA (ty := 63) rfl rfl H (by repeat (first | exact Found.here | apply Found.there)) (by exact row63) ?_) | (refine wpH_ldA (ty := 89) rfl rfl H (by repeat (first | exact Found.here | apply Found.there)) (by exact row89) ?_) | (refine wpH_ldA (ty := 109) rfl rfl H (by repeat (first | exact Found.here | apply Found.there)) (by exact row109) ?_) | (refine wpH_ldA (ty := 57) rfl rfl H (by repeat (first | exact Found.here | apply Found.there)) (by exact row57) ?_) | (refine wpH_ld1 (ty := 3) rfl rfl H (by repeat (first | exact Found.here | apply Found.there)) one3 (by rfl) ?_) | (refine wpH_ld1 (ty := 4) rfl rfl H (by repeat (first | exact Found.here | apply Found.there)) one4 (by rfl) ?_) | (refine wpH_ld1 (ty := 26) rfl rfl H (by repeat (first | exact Found.here | apply Found.there)) one26 (by rfl) ?_) | (refine wpH_ld1 (ty := 22) rfl rfl H (by repeat (first | exact Found.here | apply Found.there)) one22 (by rfl) ?_) | (refine wpH_ld1 (ty := 91) rfl rfl H (by repeat (first | exact Found.here | apply Found.there)) one91 (by rfl) ?_)) | ((with_reducible refine at_st ?_); first | (refine wpH_st1 (ty := 3) (v := .int _ _) rfl rfl rfl rfl rfl H one3 (by repeat (first | exact Found.here | apply Found.there)) (by repeat (first | exact SetAt.z | apply SetAt.s)) (by repeat (first | exact Turned.here | apply Turned.there)) ?_; clear H; intro wN H) | (refine wpH_st1 (ty := 4) (v := .int _ _) rfl rfl rfl rfl rfl H one4 (by repeat (first | exact Found.here | apply Found.there)) (by repeat (first | exact SetAt.z | apply SetAt.s)) (by repeat (first | exact Turned.here | apply Turned.there)) ?_; clear H; intro wN H) | (refine wpH_st1 (ty := 26) (v := .int _ _) rfl rfl rfl rfl rfl H one26 (by repeat (first | exact Found.here | apply Found.there)) (by repeat (first | exact SetAt.z | apply SetAt.s)) (by repeat (first | exact Turned.here | apply Turned.there)) ?_; clear H; intro wN H) | (refine wpH_st1 (ty := 22) (v := .int _ _) rfl rfl rfl rfl rfl H one22 (by repeat (first | exact Found.here | apply Found.there)) (by repeat (first | exact SetAt.z | apply SetAt.s)) (by repeat (first | exact Turned.here | apply Turned.there)) ?_; clear H; intro wN H) | (refine wpH_st1 (ty := 91) (v := .int _ _) rfl rfl rfl rfl rfl H one91 (by repeat (first | exact Found.here | apply Found.there)) (by repeat (first | exact SetAt.z | apply SetAt.s)) (by repeat (first | exact Turned.here | apply Turned.there)) ?_; clear H; intro wN H) | (refine wpH_stA (ty := 63) rfl rfl rfl H (by repeat (first | exact Turned.here | apply Turned.there)) (by exact row63) (by rfl) (by kernel_rfl) ?_; clear H; intro wN H) | (refine wpH_stA (ty := 89) rfl rfl rfl H (by repeat (first | exact Turned.here | apply Turned.there)) (by exact row89) (by rfl) (by kernel_rfl) ?_; clear H; intro wN H) | (refine wpH_stA (ty := 109) rfl rfl rfl H (by repeat (first | exact Turned.here | apply Turned.there)) (by exact row109) (by rfl) (by kernel_rfl) ?_; clear H; intro wN H) | (refine wpH_stA (ty := 57) rfl rfl rfl H (by repeat (first | exact Turned.here | apply Turned.there)) (by exact row57) (by rfl) (by kernel_rfl) ?_; clear H; intro wN H)) | ((with_reducible refine at_al ?_); refine wpH_al rfl (by first | exact zero63 | exact zero89 | exact zero109 | exact zero57) H ?_; clear H; intro bN wN H) | ((with_reducible refine at_bx ?_); refine wpH_bxA rfl rfl H ?_; clear H; intro bN wN H)) | fail)
        exact ⟨⟨k + 1, by omega, by simp, hno2, H⟩, by simp only [intOf]; omega⟩
    · have hke : k = s.L.length := by omega
      have htk : s.L.take k = s.L := List.take_of_length_le (by omega)
      rw [htk] at hno
      have HO : Hid (ofL s.L i = zeroM) := ofL_no hno
      clear hno htk hke
      go_wp2_with (first | ((first | ((with_reducible refine at_plain ?_); intro K hK) | go_guarded); first | ((with_reducible refine at_ld ?_); first | (refine wpH_ldA (ty := 63) rfl rfl H (by repeat (first | exact Found.here | apply Found.there)) (by exact row63) ?_) | (refine wpH_ldA (ty := 89) rfl rfl H (by repeat (first | exact Found.here | apply Found.there)) (by exact row89) ?_) | (refine wpH_ldA (ty := 109) rfl rfl H (by repeat (first | exact Found.here | apply Found.there)) (by exact row109) ?_) | (refine wpH_ldA (ty := 57) rfl rfl H (by repeat (first | exact Found.here | apply Found.there)) (by exact row57) ?_) | (refine wpH_ld1 (ty := 3) rfl rfl H (by repeat (first | exact Found.here | apply Found.there)) one3 (by rfl) ?_) | (refine wpH_ld1 (ty := 4) rfl rfl H (by repeat (first | exact Found.here | apply Found.there)) one4 (by rfl) ?_) | (refine wpH_ld1 (ty := 26) rfl rfl H (by repeat (first | exact Found.here | apply Found.there)) one26 (by rfl) ?_) | (refine wpH_ld1 (ty := 22) rfl rfl H (by repeat (first | exact Found.here | apply Found.there)) one22 (by rfl) ?_) | (refine wpH_ld1 (ty := 91) rfl rfl H (by repeat (first | exact Found.here | apply Found.there)) one91 (by rfl) ?_)) | ((with_reducible refine at_st ?_); first | (refine wpH_st1 (ty := 3) (v := .int _ _) rfl rfl rfl rfl rfl H one3 (by repeat (first | exact Found.here | apply Found.there)) (by repeat (first | exact SetAt.z | apply SetAt.s)) (by repeat (first | exact Turned.here | apply Turned.there)) ?_; clear H; intro wN H) | (refine wpH_st1 (ty := 4) (v := .int _ _) rfl rfl rfl rfl rfl H one4 (by repeat (first | exact Found.here | apply Found.there)) (by repeat (first | exact SetAt.z | apply SetAt.s)) (by repeat (first | exact Turned.here | apply Turned.there)) ?_; clear H; intro wN H) | (refine wpH_st1 (ty := 26) (v := .int _ _) rfl rfl rfl rfl rfl H one26 (by repeat (first | exact Found.here | apply Found.there)) (by repeat (first | exact SetAt.z | apply SetAt.s)) (by repeat (first | exact Turned.here | apply Turned.there)) ?_; clear H; intro wN H) | (refine wpH_st1 (ty := 22) (v := .int _ _) rfl rfl rfl rfl rfl H one22 (by repeat (first | exact Found.here | apply Found.there)) (by repeat (first | exact SetAt.z | apply SetAt.s)) (by repeat (first | exact Turned.here | apply Turned.there)) ?_; clear H; intro wN H) | (refine wpH_st1 (ty := 91) (v := .int _ _) rfl rfl rfl rfl rfl H one91 (by repeat (first | exact Found.here | apply Found.there)) (by repeat (first | exact SetAt.z | apply SetAt.s)) (by repeat (first | exact Turned.here | apply Turned.there)) ?_; clear H; intro wN H) | (refine wpH_stA (ty := 63) rfl rfl rfl H (by repeat (first | exact Turned.here | apply Turned.there)) (by exact row63) (by rfl) (by kernel_rfl) ?_; clear H; intro wN H) | (refine wpH_stA (ty := 89) rfl rfl rfl H (by repeat (first | exact Turned.here | apply Turned.there)) (by exact row89) (by rfl) (by kernel_rfl) ?_; clear H; intro wN H) | (refine wpH_stA (ty := 109) rfl rfl rfl H (by repeat (first | exact Turned.here | apply Turned.there)) (by exact row109) (by rfl) (by kernel_rfl) ?_; clear H; intro wN H) | (refine wpH_stA (ty := 57) rfl rfl rfl H (by repeat (first | exact Turned.here | apply Turned.there)) (by exact row57) (by rfl) (by kernel_rfl) ?_; clear H; intro wN H)) | ((with_reducible refine at_al ?_); refine wpH_al rfl (by first | exact zero63 | exact zero89 | exact zero109 | exact zero57) H ?_; clear H; intro bN wN H) | ((with_reducible refine at_bx ?_); refine wpH_bxA rfl rfl H ?_; clear H; intro bN wN H)) | fail)
      rw [HO.out]
      exact bodyPost_ret (results_H1 rfl H (by repeat (first | exact Found.here | apply Found.there)) (by first | exact row63 | exact row89 | exact row109 | exact row57) rfl) rfl ⟨rfl, H.grown⟩
theorem chg_take {L : List Mi} {i : Int} {f : Mi → Mi} {k : Nat} (hk : k < L.length) : chg (L.take (k + 1)) i f = chg (L.take k) i f ++ [if (L[k]).id = i then f L[k] else L[k]] := by
  unfold chg
  rw [List.take_succ_eq_append_getElem hk, List.map_append]
  rfl
set_option maxHeartbeats 4000000 in
theorem rput_any (rb lb B : Nat) (lv : Value) (ao : Option Addr) (g o c : Nat) (S : List Nat) (s : Bk) (m : Mi) (hn : s.L.length ≤ 64) (w : World) (HR : Rks w rb lb B lv ao g o c S s) :
    Calls Try.prog 49 #[.pointer (some ⟨rb, 0, none⟩), .agg #[.int .i64 m.id, .int .i64 m.fr, .int .i64 m.to, .int .i64 m.se, .int .i64 m.ac, .int .i64 m.lo, .int .i64 m.pa, .int .i64 m.hi, .int .i64 m.dr, .int .i64 m.n, .int .i64 m.st, .int .i64 m.sr, .int .i64 m.tt, .int .i64 m.tr, .int .i64 m.rr]] w fun e w' => e = .returned (.tuple #[]) ∧ ∃ S', Rka w' rb S' { s with L := chg s.L m.id (fun _ => m) } ∧ Goes S S' w w' := by
  have H := Heap.nil w
  have hcap := HR.row.cap; have hmax := HR.row.max
  have hmx : maxLen = 9223372036854775807 := rfl
  have hrl := HR.low _ HR.m1
  go_enter Try.func49, Try.ntmps49
  go_upto_region 1 with (first | ((first | ((with_reducible refine at_plain ?_); intro K hK) | go_guarded); first | ((with_reducible refine at_ld ?_); first | (refine wpH_ldA (ty := 63) rfl rfl H (by repeat (first | exact Found.here | apply Found.there)) (by exact row63) ?_) | (refine wpH_ldA (ty := 89) rfl rfl H (by repeat (first | exact Found.here | apply Found.there)) (by exact row89) ?_) | (refine wpH_ldA (ty := 109) rfl rfl H (by repeat (first | exact Found.here | apply Found.there)) (by exact row109) ?_) | (refine wpH_ldA (ty := 57) rfl rfl H (by repeat (first | exact Found.here | apply Found.there)) (by exact row57) ?_) | (refine wpH_ld1 (ty := 3) rfl rfl H (by repeat (first | exact Found.here | apply Found.there)) one3 (by rfl) ?_) | (refine wpH_ld1 (ty := 4) rfl rfl H (by repeat (first | exact Found.here | apply Found.there)) one4 (by rfl) ?_) | (refine wpH_ld1 (ty := 26) rfl rfl H (by repeat (first | exact Found.here | apply Found.there)) one26 (by rfl) ?_) | (refine wpH_ld1 (ty := 22) rfl rfl H (by repeat (first | exact Found.here | apply Found.there)) one22 (by rfl) ?_) | (refine wpH_ld1 (ty := 91) rfl rfl H (by repeat (first | exact Found.here | apply Found.there)) one91 (by rfl) ?_)) | ((with_reducible refine at_st ?_); first | (refine wpH_st1 (ty := 3) (v := .int _ _) rfl rfl rfl rfl rfl H one3 (by repeat (first | exact Found.here | apply Found.there)) (by repeat (first | exact SetAt.z | apply SetAt.s)) (by repeat (first | exact Turned.here | apply Turned.there)) ?_; clear H; intro wN H) | (refine wpH_st1 (ty := 4) (v := .int _ _) rfl rfl rfl rfl rfl H one4 (by repeat (first | exact Found.here | apply Found.there)) (by repeat (first | exact SetAt.z | apply SetAt.s)) (by repeat (first | exact Turned.here | apply Turned.there)) ?_; clear H; intro wN H) | (refine wpH_st1 (ty := 26) (v := .int _ _) rfl rfl rfl rfl rfl H one26 (by repeat (first | exact Found.here | apply Found.there)) (by repeat (first | exact SetAt.z | apply SetAt.s)) (by repeat (first | exact Turned.here | apply Turned.there)) ?_; clear H; intro wN H) | (refine wpH_st1 (ty := 22) (v := .int _ _) rfl rfl rfl rfl rfl H one22 (by repeat (first | exact Found.here | apply Found.there)) (by repeat (first | exact SetAt.z | apply SetAt.s)) (by repeat (first | exact Turned.here | apply Turned.there)) ?_; clear H; intro wN H) | (refine wpH_st1 (ty := 91) (v := .int _ _) rfl rfl rfl rfl rfl H one91 (by repeat (first | exact Found.here | apply Found.there)) (by repeat (first | exact SetAt.z | apply SetAt.s)) (by repeat (first | exact Turned.here | apply Turned.there)) ?_; clear H; intro wN H) | (refine wpH_stA (ty := 63) rfl rfl rfl H (by repeat (first | exact Turned.here | apply Turned.there)) (by exact row63) (by rfl) (by kernel_rfl) ?_; clear H; intro wN H) | (refine wpH_stA (ty := 89) rfl rfl rfl H (by repeat (first | exact Turned.here | apply Turned.there)) (by exact row89) (by rfl) (by kernel_rfl) ?_; clear H; intro wN H) | (refine wpH_stA (ty := 109) rfl rfl rfl H (by repeat (first | exact Turned.here | apply Turned.there)) (by exact row109) (by rfl) (by kernel_rfl) ?_; clear H; intro wN H) | (refine wpH_stA (ty := 57) rfl rfl rfl H (by repeat (first | exact Turned.here | apply Turned.there)) (by exact row57) (by rfl) (by kernel_rfl) ?_; clear H; intro wN H)) | ((with_reducible refine at_al ?_); refine wpH_al rfl (by first | exact zero63 | exact zero89 | exact zero109 | exact zero57) H ?_; clear H; intro bN wN H) | ((with_reducible refine at_bx ?_); refine wpH_bxA rfl rfl H ?_; clear H; intro bN wN H)) | fail)
  have OO := (H.found Found.here).2
  have hbN := (H.found Found.here).1
  have hB := H.grown
  clear H
  go_wp2_with fail
  go_loopw [4, 5] (fun v4 v5 wr => ∃ (k : Nat) (ao' : Option Addr) (g' o' c' : Nat), k ≤ s.L.length ∧ v5 = .int .i64 k ∧ v4 = .slice ao' k c' ∧ Mis wr ao' g' o' k c' (chg (s.L.take k) m.id (fun _ => m)) ∧ (0 < c' → w.heap.size ≤ g' ∧ g' ≠ bN) ∧ Ob wr bN [.int .i64 m.id, .int .i64 m.fr, .int .i64 m.to, .int .i64 m.se, .int .i64 m.ac, .int .i64 m.lo, .int .i64 m.pa, .int .i64 m.hi, .int .i64 m.dr, .int .i64 m.n, .int .i64 m.st, .int .i64 m.sr, .int .i64 m.tt, .int .i64 m.tr, .int .i64 m.rr] ∧ Below w.heap.size w wr) (fun _ v5 _ => s.L.length - (intOf v5).toNat)
  case atStart => exact ⟨0, none, 0, 0, 0, Nat.zero_le _, rfl, rfl, Mis.nil _ _ _, fun h => absurd h (by omega), OO, hB⟩
  case round =>
    clear OO hB
    obtain ⟨k, ao', g', o', c', hk, rfl, rfl, hMis, hgg, OO, hB⟩ := hrel
    have HRr := HR.below hB
    have hwr := hB.size
    obtain ⟨c0, c1, c2, c3, c4, fz⟩ := HRr.cells
    by_cases hkn : k < s.L.length
    · obtain ⟨rfl, hg⟩ := HR.row.value hkn
      obtain ⟨x, hx⟩ : ∃ x, s.L[k] = x := ⟨_, rfl⟩
      have hel := HRr.row.els k hkn
      rw [hx] at hel
      have e0 : wr.cell? ⟨g, o + k * 15, none⟩ = some (.int .i64 x.id) := by simpa using hel 0 _ rfl
      have n0 : wr.cell? ⟨bN, 0, none⟩ = some (.int .i64 m.id) := OO.cell rfl
      have HT : Hid _ := chg_take (i := m.id) (f := fun _ => m) hkn
      have HX : Hid (s.L[k] = x) := hx
      clear hx
      have hcl : (chg (s.L.take k) m.id (fun _ => m)).length = k := hMis.len
      by_cases he : x.id = m.id
      · have he2 : (x.id == m.id) = true := by simpa using he
        have HE : Hid (x.id = m.id) := he
        clear he
        go_wp2_with fail
        go_quiet (fail)
        have FQ : Far [] wr (wr.drewN nq) := (Far.refl _ _).drewN nq
        have hM1 := hMis.far FQ (fun _ => by simp)
        have OO1 := OO.far FQ (by simp)
        have hB1 : Below w.heap.size w (wr.drewN nq) := hB.trans ⟨rfl, rfl, rfl, Nat.le_refl _, fun _ _ => rfl⟩
        have hel1 : (wr.drewN nq).rangeAt g (o + k * 15) (listM x) := hel
        clear hMis OO hB FQ hel e0 n0 c0 c1 c2 c3 c4 fz HRr
        generalize wr.drewN nq = W1 at *
        have hLM : (ldM (.pointer (some ⟨bN, 0, none⟩))).run Try.prog W1 = .ok (.agg #[.int .i64 m.id, .int .i64 m.fr, .int .i64 m.to, .int .i64 m.se, .int .i64 m.ac, .int .i64 m.lo, .int .i64 m.pa, .int .i64 m.hi, .int .i64 m.dr, .int .i64 m.n, .int .i64 m.st, .int .i64 m.sr, .int .i64 m.tt, .int .i64 m.tr, .int .i64 m.rr]) W1 := ldM_run OO1.c
        have hBS := bsM_run m W1
        have FA : Far [] W1 (W1.alloc (.cells #[.int .i64 m.id, .int .i64 m.fr, .int .i64 m.to, .int .i64 m.se, .int .i64 m.ac, .int .i64 m.lo, .int .i64 m.pa, .int .i64 m.hi, .int .i64 m.dr, .int .i64 m.n, .int .i64 m.st, .int .i64 m.sr, .int .i64 m.tt, .int .i64 m.tr, .int .i64 m.rr] 63)) := (Far.refl _ _).alloc _
        have hMA := hM1.far FA (fun _ => by simp)
        have OOA := OO1.far FA (by simp)
        have hBA : Below w.heap.size w (W1.alloc (.cells #[.int .i64 m.id, .int .i64 m.fr, .int .i64 m.to, .int .i64 m.se, .int .i64 m.ac, .int .i64 m.lo, .int .i64 m.pa, .int .i64 m.hi, .int .i64 m.dr, .int .i64 m.n, .int .i64 m.st, .int .i64 m.sr, .int .i64 m.tt, .int .i64 m.tr, .int .i64 m.rr] 63)) := hB1.alloc hB1.size _
        have hsz1 := hB1.size
        have hsrc := one_src W1 m
        have hbl := OO1.lt
        go_wp2_with (at_builtin; refine wpM_append rfl _ _ rfl rfl rfl hMA hsrc rfl (by omega) ?_; intro ao2 g2 o2 c2 w2 hM2 hF2 hg2)
        have hnb : bN ∉ (if 0 < c' then [g'] else []) := by
          split
          · rename_i hc; simp; exact fun e => (hgg hc).2 e.symm
          · simp
        have hnl : ∀ q ∈ (if 0 < c' then [g'] else []), w.heap.size ≤ q := fun q hq => by
          split at hq
          · rename_i hc; rw [List.mem_singleton] at hq; rw [hq]; exact (hgg hc).1
          · cases hq
        have OO2 := OOA.far hF2 hnb
        have hB2 := Far.call hBA hBA.size hF2 hnl
        have hgg2 : 0 < c2 → w.heap.size ≤ g2 ∧ g2 ≠ bN := fun hc => by
          rcases hg2 with h1 | h1
          · obtain ⟨rfl, h3⟩ := h1 hc; exact hgg h3
          · rw [h1]; simp; omega
        have hM3 : Mis w2 ao2 g2 o2 (k + 1) c2 (chg (s.L.take (k + 1)) m.id (fun _ => m)) := by rw [HT.out, HX.out, if_pos HE.out]; exact hM2
        go_wp2_with fail
        exact ⟨⟨k + 1, ao2, g2, o2, c2, by omega, by simp, rfl, hM3, hgg2, OO2, hB2⟩, by simp only [intOf]; omega⟩
      · have he2 : (x.id == m.id) = false := by simpa using he
        have HE : Hid (¬ x.id = m.id) := he
        clear he
        go_wp2_with fail
        go_quiet (fail)
        have FQ : Far [] wr (wr.drewN nq) := (Far.refl _ _).drewN nq
        have HR1 := HRr.far FQ (by simp)
        have hM1 := hMis.far FQ (fun _ => by simp)
        have OO1 := OO.far FQ (by simp)
        have hB1 : Below w.heap.size w (wr.drewN nq) := hB.trans ⟨rfl, rfl, rfl, Nat.le_refl _, fun _ _ => rfl⟩
        have hel1 : (wr.drewN nq).rangeAt g (o + k * 15) (listM x) := hel
        clear hMis OO hB FQ hel e0 n0 c0 c1 c2 c3 c4 fz HRr
        generalize wr.drewN nq = W1 at *
        have hLM : (ldM (.pointer (some ⟨g, o + k * 15, none⟩))).run Try.prog W1 = .ok (.agg #[.int .i64 x.id, .int .i64 x.fr, .int .i64 x.to, .int .i64 x.se, .int .i64 x.ac, .int .i64 x.lo, .int .i64 x.pa, .int .i64 x.hi, .int .i64 x.dr, .int .i64 x.n, .int .i64 x.st, .int .i64 x.sr, .int .i64 x.tt, .int .i64 x.tr, .int .i64 x.rr]) W1 := ldM_run hel1
        have k1 : W1.cell? ⟨rb, 1, none⟩ = some (.slice (some ⟨g, o, none⟩) s.L.length c) := HR1.cells.2.1
        have hBS := bsM_run x W1
        have FA : Far [] W1 (W1.alloc (.cells #[.int .i64 x.id, .int .i64 x.fr, .int .i64 x.to, .int .i64 x.se, .int .i64 x.ac, .int .i64 x.lo, .int .i64 x.pa, .int .i64 x.hi, .int .i64 x.dr, .int .i64 x.n, .int .i64 x.st, .int .i64 x.sr, .int .i64 x.tt, .int .i64 x.tr, .int .i64 x.rr] 63)) := (Far.refl _ _).alloc _
        have hMA := hM1.far FA (fun _ => by simp)
        have OOA := OO1.far FA (by simp)
        have hBA : Below w.heap.size w (W1.alloc (.cells #[.int .i64 x.id, .int .i64 x.fr, .int .i64 x.to, .int .i64 x.se, .int .i64 x.ac, .int .i64 x.lo, .int .i64 x.pa, .int .i64 x.hi, .int .i64 x.dr, .int .i64 x.n, .int .i64 x.st, .int .i64 x.sr, .int .i64 x.tt, .int .i64 x.tr, .int .i64 x.rr] 63)) := hB1.alloc hB1.size _
        have hsz1 := hB1.size
        have hsrc := one_src W1 x
        have hbl := OO1.lt
        go_wp2_with (at_builtin; refine wpM_append rfl _ _ rfl rfl rfl hMA hsrc rfl (by omega) ?_; intro ao2 g2 o2 c2 w2 hM2 hF2 hg2)
        have hnb : bN ∉ (if 0 < c' then [g'] else []) := by
          split
          · rename_i hc; simp; exact fun e => (hgg hc).2 e.symm
          · simp
        have hnl : ∀ q ∈ (if 0 < c' then [g'] else []), w.heap.size ≤ q := fun q hq => by
          split at hq
          · rename_i hc; rw [List.mem_singleton] at hq; rw [hq]; exact (hgg hc).1
          · cases hq
        have OO2 := OOA.far hF2 hnb
        have hB2 := Far.call hBA hBA.size hF2 hnl
        have hgg2 : 0 < c2 → w.heap.size ≤ g2 ∧ g2 ≠ bN := fun hc => by
          rcases hg2 with h1 | h1
          · obtain ⟨rfl, h3⟩ := h1 hc; exact hgg h3
          · rw [h1]; simp; omega
        have hM3 : Mis w2 ao2 g2 o2 (k + 1) c2 (chg (s.L.take (k + 1)) m.id (fun _ => m)) := by rw [HT.out, HX.out, if_neg HE.out]; exact hM2
        go_wp2_with fail
        exact ⟨⟨k + 1, ao2, g2, o2, c2, by omega, by simp, rfl, hM3, hgg2, OO2, hB2⟩, by simp only [intOf]; omega⟩
    · have hke : k = s.L.length := by omega
      have htk : s.L.take k = s.L := List.take_of_length_le (by omega)
      rw [htk] at hMis
      subst hke
      clear htk
      have hlen : (chg s.L m.id (fun _ => m)).length = s.L.length := chg_length _ _ _
      obtain ⟨S', HR5, G5⟩ := HR.rerow (Far.of_below hB) (by simp) (by simp) (ao' := ao') (g' := g') (o' := o') (c' := c') (L' := chg s.L m.id (fun _ => m)) (by rw [hlen]; exact hMis) (fun hc => .inr (hgg hc).1)
      rw [hlen] at HR5 G5
      clear hMis OO HRr hlen
      go_wp2_with fail
      first | exact bodyPost_ret (results_0 rfl) rfl ⟨rfl, S', ⟨_, _, _, _, _, _, _, HR5⟩, G5⟩ | exact bodyPost_end (results_0 rfl) rfl ⟨rfl, S', ⟨_, _, _, _, _, _, _, HR5⟩, G5⟩
end Go.Proofs.Ytpaalpnoppblaaa

/-! Z15 -/
namespace Go.Proofs.Ytpaalpnoppblaaa
open Go.RowKit Go.Maps
set_option linter.unusedVariables false
set_option maxRecDepth 8000
theorem chg_const {s : Bk} {i : Int} {j : Nat} (hj : j < s.L.length) (hu : ∀ k (hk : k < s.L.length), (s.L[k]).id = i ↔ k = j) (f : Mi → Mi) : chg s.L i (fun _ => f (s.L[j]'hj)) = chg s.L i f := by
  unfold chg
  refine List.map_congr_left fun x hx => ?_
  obtain ⟨k, hk, rfl⟩ := List.getElem_of_mem hx
  split
  · rename_i e
    have := (hu k hk).1 e
    subst this; rfl
  · rfl
theorem Rks.app {w : World} {rb lb B : Nat} {lv : Value} {ao : Option Addr} {g o c : Nat} {S : List Nat} {s : Bk} (h : Rks w rb lb B lv ao g o c S s) {w' : World} {ao' : Option Addr} {g' o' c' : Nat} {m : Mi}
    (hM : Mis w' ao' g' o' (s.L.length + 1) c' (s.L ++ [m])) (hF : Far (if 0 < c then [g] else []) w w') (hg : 0 < c' → (g' = g ∧ 0 < c) ∨ w.heap.size ≤ g') :
    ∃ S', Rks (w'.setCell ⟨rb, 1, none⟩ (.slice ao' (s.L.length + 1) c')) rb lb B lv ao' g' o' c' S' { s with L := s.L ++ [m] } ∧ Goes S S' w (w'.setCell ⟨rb, 1, none⟩ (.slice ao' (s.L.length + 1) c')) := by
  have key : ∀ k ∈ (if 0 < c then [g] else []), 0 < c ∧ k = g := fun k hk => by
    split at hk
    · rename_i hc; rw [List.mem_singleton] at hk; exact ⟨hc, hk⟩
    · cases hk
  have e : (s.L ++ [m]).length = s.L.length + 1 := by simp
  have := h.rerow hF (fun k hk => by
    obtain ⟨hc, rfl⟩ := key k hk
    have := h.ng hc
    exact ⟨by simp; exact ⟨this.1, this.2.1⟩, this.2.2.1⟩) (fun k hk => by obtain ⟨hc, rfl⟩ := key k hk; exact (h.ng hc).2.2.2) (L' := s.L ++ [m]) (by rw [e]; exact hM) hg
  rw [e] at this
  exact this
/-- An account stored into a variable that was just made. -/
theorem stM_new (V : Mi) (w : World) : (stM (.pointer (some ⟨w.heap.size, 0, none⟩)) (.agg #[.int .i64 V.id, .int .i64 V.fr, .int .i64 V.to, .int .i64 V.se, .int .i64 V.ac, .int .i64 V.lo, .int .i64 V.pa, .int .i64 V.hi, .int .i64 V.dr, .int .i64 V.n, .int .i64 V.st, .int .i64 V.sr, .int .i64 V.tt, .int .i64 V.tr, .int .i64 V.rr])).run Try.prog (w.alloc (.cells #[.int .i64 0, .int .i64 0, .int .i64 0, .int .i64 0, .int .i64 0, .int .i64 0, .int .i64 0, .int .i64 0, .int .i64 0, .int .i64 0, .int .i64 0, .int .i64 0, .int .i64 0, .int .i64 0, .int .i64 0] 63)) = .ok () ((w.alloc (.cells #[.int .i64 0, .int .i64 0, .int .i64 0, .int .i64 0, .int .i64 0, .int .i64 0, .int .i64 0, .int .i64 0, .int .i64 0, .int .i64 0, .int .i64 0, .int .i64 0, .int .i64 0, .int .i64 0, .int .i64 0] 63)).setCells w.heap.size 0 (listM V)) :=
  stM_run (Ob.fresh w #[.int .i64 0, .int .i64 0, .int .i64 0, .int .i64 0, .int .i64 0, .int .i64 0, .int .i64 0, .int .i64 0, .int .i64 0, .int .i64 0, .int .i64 0, .int .i64 0, .int .i64 0, .int .i64 0, .int .i64 0] 63).there
theorem ob_new (V : Mi) (w : World) : Ob ((w.alloc (.cells #[.int .i64 0, .int .i64 0, .int .i64 0, .int .i64 0, .int .i64 0, .int .i64 0, .int .i64 0, .int .i64 0, .int .i64 0, .int .i64 0, .int .i64 0, .int .i64 0, .int .i64 0, .int .i64 0, .int .i64 0] 63)).setCells w.heap.size 0 (listM V)) w.heap.size (listM V) := (Ob.fresh w #[.int .i64 0, .int .i64 0, .int .i64 0, .int .i64 0, .int .i64 0, .int .i64 0, .int .i64 0, .int .i64 0, .int .i64 0, .int .i64 0, .int .i64 0, .int .i64 0, .int .i64 0, .int .i64 0, .int .i64 0] 63).setCells_same rfl
theorem st_old {V : Mi} {w w1 : World} (h : Below (w.alloc (.cells #[.int .i64 0, .int .i64 0, .int .i64 0, .int .i64 0, .int .i64 0, .int .i64 0, .int .i64 0, .int .i64 0, .int .i64 0, .int .i64 0, .int .i64 0, .int .i64 0, .int .i64 0, .int .i64 0, .int .i64 0] 63)).heap.size (w.alloc (.cells #[.int .i64 0, .int .i64 0, .int .i64 0, .int .i64 0, .int .i64 0, .int .i64 0, .int .i64 0, .int .i64 0, .int .i64 0, .int .i64 0, .int .i64 0, .int .i64 0, .int .i64 0, .int .i64 0, .int .i64 0] 63)) w1) : (stM (.pointer (some ⟨w.heap.size, 0, none⟩)) (.agg #[.int .i64 V.id, .int .i64 V.fr, .int .i64 V.to, .int .i64 V.se, .int .i64 V.ac, .int .i64 V.lo, .int .i64 V.pa, .int .i64 V.hi, .int .i64 V.dr, .int .i64 V.n, .int .i64 V.st, .int .i64 V.sr, .int .i64 V.tt, .int .i64 V.tr, .int .i64 V.rr])).run Try.prog w1 = .ok () (w1.setCells w.heap.size 0 (listM V)) :=
  stM_run ((Ob.fresh w #[.int .i64 0, .int .i64 0, .int .i64 0, .int .i64 0, .int .i64 0, .int .i64 0, .int .i64 0, .int .i64 0, .int .i64 0, .int .i64 0, .int .i64 0, .int .i64 0, .int .i64 0, .int .i64 0, .int .i64 0] 63).far (Far.of_below h) (by simp)).there
theorem ob_old {V : Mi} {w w1 : World} (h : Below (w.alloc (.cells #[.int .i64 0, .int .i64 0, .int .i64 0, .int .i64 0, .int .i64 0, .int .i64 0, .int .i64 0, .int .i64 0, .int .i64 0, .int .i64 0, .int .i64 0, .int .i64 0, .int .i64 0, .int .i64 0, .int .i64 0] 63)).heap.size (w.alloc (.cells #[.int .i64 0, .int .i64 0, .int .i64 0, .int .i64 0, .int .i64 0, .int .i64 0, .int .i64 0, .int .i64 0, .int .i64 0, .int .i64 0, .int .i64 0, .int .i64 0, .int .i64 0, .int .i64 0, .int .i64 0] 63)) w1) : Ob (w1.setCells w.heap.size 0 (listM V)) w.heap.size (listM V) :=
  ((Ob.fresh w #[.int .i64 0, .int .i64 0, .int .i64 0, .int .i64 0, .int .i64 0, .int .i64 0, .int .i64 0, .int .i64 0, .int .i64 0, .int .i64 0, .int .i64 0, .int .i64 0, .int .i64 0, .int .i64 0, .int .i64 0] 63).far (Far.of_below h) (by simp)).setCells_same rfl
theorem below_new {W w3 : World} {vs : List Value} (h : Below W.heap.size W w3) : Below W.heap.size W ((w3.alloc (.cells #[.int .i64 0, .int .i64 0, .int .i64 0, .int .i64 0, .int .i64 0, .int .i64 0, .int .i64 0, .int .i64 0, .int .i64 0, .int .i64 0, .int .i64 0, .int .i64 0, .int .i64 0, .int .i64 0, .int .i64 0] 63)).setCells w3.heap.size 0 vs) :=
  Below.setCells w3.heap.size h.size vs 0 _ (h.alloc h.size _)
theorem below_old {W w3 : World} {vs : List Value} (h : Below W.heap.size W w3) : Below W.heap.size W (w3.setCells W.heap.size 0 vs) := Below.setCells W.heap.size (Nat.le_refl _) vs 0 _ h
attribute [local go_sem ↓] ldM_shut stM_shut append_shut bsM_shut
set_option maxHeartbeats 4000000 in
theorem rbegin_any (rb lb B : Nat) (lv : Value) (ao : Option Addr) (g o c : Nat) (S : List Nat) (s : Bk) (hf : Fit s) (a : Int) (a0 : -9223372036854775808 ≤ a) (a1 : a ≤ 9223372036854775807) (hb : s.begun ≤ 4611686018427387904) (w : World) (HR : Rks w rb lb B lv ao g o c S s) :
    Calls Try.prog 24 #[.pointer (some ⟨rb, 0, none⟩), .int .i64 a] w fun e w' => e = .returned (.tuple #[.int .i64 (bgV s a), .int .i64 (bgE s a)]) ∧ ∃ S', Rka w' rb S' (bgL s a) ∧ Goes S S' w w' := by
  have hlen := hf.len
  have hb0 := hf.b0
  go_enter Try.func24, Try.ntmps24
  go_wp2_with fail
  refine (rearly_any rb lb B lv ao g o c S s hf.n0 a _ HR).mono ?_
  rintro e w1 ⟨rfl, hw1⟩
  have HR1 := HR.below hw1
  have F1 : Far S w w1 := (Far.of_below hw1).mono (by simp)
  obtain ⟨c0, c1, c2, c3, c4, fz⟩ := HR1.cells
  by_cases he : earlyP s a
  · have E : Hid (bgE s a = 10 ∧ bgV s a = 0 ∧ bgL s a = s) := ⟨by simp [bgE, he], by simp [bgV, bgE, he], by simp [bgL, bgE, he]⟩
    rw [decide_eq_true he]
    go_wp2_with fail
    go_ret2
    exact ⟨by rw [E.out.1, E.out.2.1]; rfl, S, by rw [E.out.2.2]; exact ⟨_, _, _, _, _, _, _, HR1⟩, F1, fun k hk => .inl hk⟩
  rw [decide_eq_false he]
  by_cases h64 : s.L.length = 64
  · have E : Hid (bgE s a = 2 ∧ bgV s a = 0 ∧ bgL s a = s) := ⟨by simp [bgE, he, h64], by simp [bgV, bgE, he, h64], by simp [bgL, bgE, he, h64]⟩
    rw [h64] at c1
    go_wp2_with fail
    go_ret2
    exact ⟨by rw [E.out.1, E.out.2.1]; rfl, S, by rw [E.out.2.2]; exact ⟨_, _, _, _, _, _, _, HR1⟩, F1, fun k hk => .inl hk⟩
  have E : Hid (bgE s a = 0 ∧ bgV s a = s.begun ∧ bgL s a = { s with now := a, begun := s.begun + 1, L := chg s.L (s.begun - 1) (fun m => closeV m a) ++ [openV s.begun a] }) := ⟨by simp [bgE, he, h64], by simp [bgV, bgE, he, h64], by simp [bgL, bgE, he, h64]⟩
  have he' : Hid (¬ earlyP s a) := he
  have h64' : ¬ (64 ≤ (s.L.length : Int)) := by omega
  clear he
  go_upto_if 24 with fail
  go_cut [6, 7, 18] (fun s6 s7 s18 wx => ∃ S', Rka wx rb S' { s with L := chg s.L (s.begun - 1) (fun m => closeV m a) } ∧ Goes S S' w wx)
  case first =>
    --@slow
    by_cases hn : s.L.length = 0
    · have hnil : s.L = [] := List.eq_nil_of_length_eq_zero hn
      have hng : decide ((0 : Int) < (s.L.length : Int)) = false := decide_eq_false (by omega)
      have e1 : ({ s with L := chg s.L (s.begun - 1) (fun m => closeV m a) } : Bk) = s := by rw [hnil]; cases s; simp at hnil; subst hnil; rfl
      have E1 : Hid _ := e1
      clear e1
      go_wp2_with fail
      go_meet
      case rel => rw [E1.out]; exact ⟨S, ⟨_, _, _, _, _, _, _, HR1⟩, F1, fun k hk => .inl hk⟩
    · obtain ⟨j, hj⟩ : ∃ j, s.L.length = j + 1 := ⟨s.L.length - 1, by omega⟩
      have hjl : j < s.L.length := by omega
      have hu : ∀ k (hk : k < s.L.length), (s.L[k]).id = s.begun - 1 ↔ k = j := fun k hk => by rw [hf.ids k hk]; omega
      have ELS : Hid _ := chg_const hjl hu (fun m => closeV m a)
      have hrun := hf.run j hjl (by omega)
      have hcl := ((hf.owes _ (List.getElem_mem hjl)).closed (a := a) hrun.1 (by have := he'.out; unfold earlyP at this; omega) (by have := he'.out; unfold earlyP at this; omega)).2.1
      have hvid : (closeV s.L[j] a).id = s.begun - 1 := by rw [hcl]; exact (hu j hjl).2 rfl
      obtain ⟨rfl, hg⟩ := HR1.row.value hjl
      obtain ⟨m, hm⟩ : ∃ m, s.L[j] = m := ⟨_, rfl⟩
      have HM : Hid (s.L[j] = m) := hm
      have HJ : Hid (s.L.length = j + 1) := hj
      have T := fun w => refClose_any m a w
      obtain ⟨V, hV⟩ : ∃ V, closeV m a = V := ⟨_, rfl⟩
      rw [hV] at T
      rw [hm, hV] at hvid
      have HVI : Hid (V.id = s.begun - 1) := hvid
      have HV : Hid (closeV m a = V) := hV
      clear hV hvid hcl hrun hu
      generalize closeE m a = EE at *
      rw [hj] at c1
      simp only [hj, Int.natCast_add, Int.natCast_one]
      obtain ⟨VM, hVM⟩ : ∃ x : Value, x = .agg #[.int .i64 m.id, .int .i64 m.fr, .int .i64 m.to, .int .i64 m.se, .int .i64 m.ac, .int .i64 m.lo, .int .i64 m.pa, .int .i64 m.hi, .int .i64 m.dr, .int .i64 m.n, .int .i64 m.st, .int .i64 m.sr, .int .i64 m.tt, .int .i64 m.tr, .int .i64 m.rr] := ⟨_, rfl⟩
      obtain ⟨VN, hVN⟩ : ∃ x : Value, x = .agg #[.int .i64 V.id, .int .i64 V.fr, .int .i64 V.to, .int .i64 V.se, .int .i64 V.ac, .int .i64 V.lo, .int .i64 V.pa, .int .i64 V.hi, .int .i64 V.dr, .int .i64 V.n, .int .i64 V.st, .int .i64 V.sr, .int .i64 V.tt, .int .i64 V.tr, .int .i64 V.rr] := ⟨_, rfl⟩
      have hM : ∀ w3 : World, Below w1.heap.size w1 w3 → (ldM (.pointer (some ⟨g, o + j * 15, none⟩))).run Try.prog w3 = .ok VM w3 := fun w3 hb => by
        rw [hVM]; exact ldM_run (by have := (HR1.below hb).row.els j hjl; rw [hm] at this; exact this)
      have hC1 : ∀ w3 : World, Below w1.heap.size w1 w3 → w3.cell? ⟨rb, 1, none⟩ = some (.slice (some ⟨g, o, none⟩) (j + 1) c) := fun w3 hb => by
        have := (HR1.below hb).cells.2.1; rw [HJ.out] at this; exact this
      have hSN : ∀ w3 : World, (stM (.pointer (some ⟨w3.heap.size, 0, none⟩)) VN).run Try.prog (w3.alloc (.cells #[.int .i64 0, .int .i64 0, .int .i64 0, .int .i64 0, .int .i64 0, .int .i64 0, .int .i64 0, .int .i64 0, .int .i64 0, .int .i64 0, .int .i64 0, .int .i64 0, .int .i64 0, .int .i64 0, .int .i64 0] 63)) = .ok () ((w3.alloc (.cells #[.int .i64 0, .int .i64 0, .int .i64 0, .int .i64 0, .int .i64 0, .int .i64 0, .int .i64 0, .int .i64 0, .int .i64 0, .int .i64 0, .int .i64 0, .int .i64 0, .int .i64 0, .int .i64 0, .int .i64 0] 63)).setCells w3.heap.size 0 (listM V)) := fun w3 => by
        rw [hVN]; exact stM_new V w3
      have HVN : Hid (VN = .agg #[.int .i64 V.id, .int .i64 V.fr, .int .i64 V.to, .int .i64 V.se, .int .i64 V.ac, .int .i64 V.lo, .int .i64 V.pa, .int .i64 V.hi, .int .i64 V.dr, .int .i64 V.n, .int .i64 V.st, .int .i64 V.sr, .int .i64 V.tt, .int .i64 V.tr, .int .i64 V.rr]) := hVN
      have hjb0 : (0 : Int) ≤ (j : Int) := by omega
      have hjb1 : (j : Int) < (j : Int) + 1 := by omega
      have hjb2 : (j : Int) ≤ 64 := by omega
      have hjb3 : IntKind.i64.wrap (j : Int) = (j : Int) := by unfold IntKind.wrap; simp [IntKind.bits, IntKind.signed]; omega
      rw [← hVM, ← hVN] at T
      clear hm hj hVM hVN hw1 c0 c1 c2 c3 c4 fz
      go_upto_region 6 with (simp only [hC1 w1 (Below.refl _ _)])
      go_cut [6, 7] (fun s6 s7 wx => ∃ b, s6 = .pointer (some ⟨b, 0, none⟩) ∧ Ob wx b (listM V) ∧ w1.heap.size ≤ b ∧ Below w1.heap.size w1 wx)
      case first =>
        clear HR HR1 F1
        go_region_held3 (fun w' => Below w1.heap.size w1 w')
          (first | with_reducible exact below_new (by assumption) | with_reducible exact below_old (by assumption) | go_grown)
          (first
            | (go_at_call 48; refine (T _).mono ?_; rintro e w3 ⟨rfl, hw3⟩; have g1 : Below w1.heap.size w1 w3 := Below.call (by go_grown) (by simp) hw3; have z1 := g1.size; try (have hst := st_old (V := V) (w := w1) (by with_reducible exact below_drew hw3); have hob := ob_old (V := V) (w := w1) (by with_reducible exact below_drew hw3); rw [← HVN.out] at hst)))
        all_goals go_wp2_with fail
        all_goals go_meet
        all_goals first | exact ⟨w1.heap.size, rfl, hob, Nat.le_refl _, below_old g1⟩ | exact ⟨w3.heap.size, rfl, ob_new V w3, g1.size, below_new g1⟩
      case rest =>
        obtain ⟨b, rfl, OO, hbb, hw2⟩ := hcut
        have HR2 := HR1.below hw2
        have hLM : (ldM (.pointer (some ⟨b, 0, none⟩))).run Try.prog wc = .ok (.agg #[.int .i64 V.id, .int .i64 V.fr, .int .i64 V.to, .int .i64 V.se, .int .i64 V.ac, .int .i64 V.lo, .int .i64 V.pa, .int .i64 V.hi, .int .i64 V.dr, .int .i64 V.n, .int .i64 V.st, .int .i64 V.sr, .int .i64 V.tt, .int .i64 V.tr, .int .i64 V.rr]) wc := ldM_run OO.c
        have F2 : Far S w wc := F1.below hw2
        clear HR HR1 F1 hM hC1 hSN T hw2 OO
        go_wp2_with fail
        refine (rput_any rb lb B lv (some ⟨g, o, none⟩) g o c S s V hlen _ HR2).mono ?_
        rintro e w4 ⟨rfl, S', HR4, G4⟩
        go_wp2_with fail
        go_meet
        case rel =>
          rw [HVI.out] at HR4
          rw [← ELS.out, HM.out, HV.out]
          exact ⟨S', HR4, (⟨F2, fun k hk => .inl hk⟩ : Goes S S w wc).trans G4⟩
    --@fast
  case rest =>
    obtain ⟨S2, ⟨lb2, B2, lv2, ao2, g2, o2, cc2, HB2⟩, F2⟩ := hcut
    clear HR1 HR c0 c1 c2 c3 c4 fz F1
    have hL2 : (chg s.L (s.begun - 1) (fun m => closeV m a)).length = s.L.length := chg_length _ _ _
    have HL2 : Hid _ := hL2
    have ho := opened (i := s.begun) (a := a) (by omega) (by have := he'.out; unfold earlyP at this; have := hf.n0; omega) (by have := he'.out; unfold earlyP at this; omega)
    have hid : (openV s.begun a).id = s.begun := by rw [ho.2]
    obtain ⟨s2, hs2⟩ : ∃ s2 : Bk, ({ s with L := chg s.L (s.begun - 1) (fun m => closeV m a) } : Bk) = s2 := ⟨_, rfl⟩
    have HS2 : Hid _ := hs2
    rw [hs2] at HB2
    have hbg : s.begun = s2.begun := by rw [← hs2]
    have T := fun w => refOpen_any s2.begun a w
    have hs2l : s2.L.length ≤ 64 := by rw [← hs2]; show (chg s.L (s.begun - 1) (fun m => closeV m a)).length ≤ 64; rw [hL2]; exact hlen
    rw [hbg] at hid hb hb0
    have HO : Hid (openV s2.begun a = openV s.begun a) := by show _ = _; rw [hbg]
    obtain ⟨O, hO⟩ : ∃ O, openV s2.begun a = O := ⟨_, rfl⟩
    rw [hO] at hid
    rw [hO] at T
    have HO2 : Hid (openV s2.begun a = O) := hO
    have HBG : Hid (s.begun = s2.begun) := hbg
    have HID : Hid (O.id = s2.begun) := hid
    generalize openE s2.begun a = EE at *
    have hb2 : 0 ≤ s2.begun := by have := hf.b0; omega
    clear hL2 ho hs2 hbg hO hid hb0 h64 h64' hlen
    obtain ⟨c0, c1, c2, c3, c4, fz⟩ := HB2.cells
    have H := Heap.nil wc
    go_upto_region 9 with (first | ((first | ((with_reducible refine at_plain ?_); intro K hK) | go_guarded); first | ((with_reducible refine at_ld ?_); first | (refine wpH_ldA (ty := 63) rfl rfl H (by repeat (first | exact Found.here | apply Found.there)) (by exact row63) ?_) | (refine wpH_ldA (ty := 89) rfl rfl H (by repeat (first | exact Found.here | apply Found.there)) (by exact row89) ?_) | (refine wpH_ldA (ty := 109) rfl rfl H (by repeat (first | exact Found.here | apply Found.there)) (by exact row109) ?_) | (refine wpH_ldA (ty := 57) rfl rfl H (by repeat (first | exact Found.here | apply Found.there)) (by exact row57) ?_) | (refine wpH_ld1 (ty := 3) rfl rfl H (by repeat (first | exact Found.here | apply Found.there)) one3 (by rfl) ?_) | (refine wpH_ld1 (ty := 4) rfl rfl H (by repeat (first | exact Found.here | apply Found.there)) one4 (by rfl) ?_) | (refine wpH_ld1 (ty := 26) rfl rfl H (by repeat (first | exact Found.here | apply Found.there)) one26 (by rfl) ?_) | (refine wpH_ld1 (ty := 22) rfl rfl H (by repeat (first | exact Found.here | apply Found.there)) one22 (by rfl) ?_) | (refine wpH_ld1 (ty := 91) rfl rfl H (by repeat (first | exact Found.here | apply Found.there)) one91 (by rfl) ?_)) | ((with_reducible refine at_st ?_); first | (refine wpH_st1 (ty := 3) (v := .int _ _) rfl rfl rfl rfl rfl H one3 (by repeat (first | exact Found.here | apply Found.there)) (by repeat (first | exact SetAt.z | apply SetAt.s)) (by repeat (first | exact Turned.here | apply Turned.there)) ?_; clear H; intro wN H) | (refine wpH_st1 (ty := 4) (v := .int _ _) rfl rfl rfl rfl rfl H one4 (by repeat (first | exact Found.here | apply Found.there)) (by repeat (first | exact SetAt.z | apply SetAt.s)) (by repeat (first | exact Turned.here | apply Turned.there)) ?_; clear H; intro wN H) | (refine wpH_st1 (ty := 26) (v := .int _ _) rfl rfl rfl rfl rfl H one26 (by repeat (first | exact Found.here | apply Found.there)) (by repeat (first | exact SetAt.z | apply SetAt.s)) (by repeat (first | exact Turned.here | apply Turned.there)) ?_; clear H; intro wN H) | (refine wpH_st1 (ty := 22) (v := .int _ _) rfl rfl rfl rfl rfl H one22 (by repeat (first | exact Found.here | apply Found.there)) (by repeat (first | exact SetAt.z | apply SetAt.s)) (by repeat (first | exact Turned.here | apply Turned.there)) ?_; clear H; intro wN H) | (refine wpH_st1 (ty := 91) (v := .int _ _) rfl rfl rfl rfl rfl H one91 (by repeat (first | exact Found.here | apply Found.there)) (by repeat (first | exact SetAt.z | apply SetAt.s)) (by repeat (first | exact Turned.here | apply Turned.there)) ?_; clear H; intro wN H) | (refine wpH_stA (ty := 63) rfl rfl rfl H (by repeat (first | exact Turned.here | apply Turned.there)) (by exact row63) (by rfl) (by kernel_rfl) ?_; clear H; intro wN H) | (refine wpH_stA (ty := 89) rfl rfl rfl H (by repeat (first | exact Turned.here | apply Turned.there)) (by exact row89) (by rfl) (by kernel_rfl) ?_; clear H; intro wN H) | (refine wpH_stA (ty := 109) rfl rfl rfl H (by repeat (first | exact Turned.here | apply Turned.there)) (by exact row109) (by rfl) (by kernel_rfl) ?_; clear H; intro wN H) | (refine wpH_stA (ty := 57) rfl rfl rfl H (by repeat (first | exact Turned.here | apply Turned.there)) (by exact row57) (by rfl) (by kernel_rfl) ?_; clear H; intro wN H)) | ((with_reducible refine at_al ?_); refine wpH_al rfl (by first | exact zero63 | exact zero89 | exact zero109 | exact zero57) H ?_; clear H; intro bN wN H) | ((with_reducible refine at_bx ?_); refine wpH_bxA rfl rfl H ?_; clear H; intro bN wN H)) | (go_at_call 50; refine (T _).mono ?_; rintro e wN ⟨rfl, hw⟩; replace H := H.call hw; clear hw) | fail)
    have HB3 := HB2.below H.grown
    have OO := (H.found Found.here).2
    have hbN : wc.heap.size ≤ bN := (H.found Found.here).1
    have hrb : rb < wc.heap.size := HB2.low _ HB2.m1
    have hbN' : bN < wN.heap.size := OO.lt
    have F3 : Goes S S2 w wN := F2.trans ⟨(Far.of_below H.grown).mono (by simp), fun k hk => .inl hk⟩
    have hSlow : ∀ k ∈ S2, k < wc.heap.size := HB2.low
    clear HB2 F2 H c0 c1 c2 c3 c4 fz T
    obtain ⟨ao', g', o', c', w', hAPP, hMis, hFar, hg'⟩ := app_run 36 (HB3.row.far (Far.refl [] _).drew (by simp)) (by omega) O
    obtain ⟨S', HB4, HG4⟩ := (HB3.far (Far.refl [] _).drew (by simp)).app hMis hFar hg'
    obtain ⟨VO, hVO⟩ : ∃ x : Value, x = .agg #[.int .i64 O.id, .int .i64 O.fr, .int .i64 O.to, .int .i64 O.se, .int .i64 O.ac, .int .i64 O.lo, .int .i64 O.pa, .int .i64 O.hi, .int .i64 O.dr, .int .i64 O.n, .int .i64 O.st, .int .i64 O.sr, .int .i64 O.tt, .int .i64 O.tr, .int .i64 O.rr] := ⟨_, rfl⟩
    have hO1 : (ldM (.pointer (some ⟨bN, 0, none⟩))).run Try.prog wN.drew = .ok VO wN.drew := by
      rw [hVO]; exact ldM_run (OO.far (Far.refl [] _).drew (by simp)).c
    have hBS : (bsM 1 #[(0, .agg #[.int .i64 O.id, .int .i64 O.fr, .int .i64 O.to, .int .i64 O.se, .int .i64 O.ac, .int .i64 O.lo, .int .i64 O.pa, .int .i64 O.hi, .int .i64 O.dr, .int .i64 O.n, .int .i64 O.st, .int .i64 O.sr, .int .i64 O.tt, .int .i64 O.tr, .int .i64 O.rr])]).run Try.prog wN.drew = .ok (.slice (some ⟨wN.heap.size, 0, none⟩) 1 1) (wN.alloc (.cells #[.int .i64 O.id, .int .i64 O.fr, .int .i64 O.to, .int .i64 O.se, .int .i64 O.ac, .int .i64 O.lo, .int .i64 O.pa, .int .i64 O.hi, .int .i64 O.dr, .int .i64 O.n, .int .i64 O.st, .int .i64 O.sr, .int .i64 O.tt, .int .i64 O.tr, .int .i64 O.rr] 63)).drew := bsM_run O wN.drew
    rw [← hVO] at hBS
    have hAPP2 : (apx #[36, 36] 36 #[.slice ao2 s2.L.length cc2, .slice (some ⟨wN.heap.size, 0, none⟩) 1 1]).run Try.prog (wN.alloc (.cells #[.int .i64 O.id, .int .i64 O.fr, .int .i64 O.to, .int .i64 O.se, .int .i64 O.ac, .int .i64 O.lo, .int .i64 O.pa, .int .i64 O.hi, .int .i64 O.dr, .int .i64 O.n, .int .i64 O.st, .int .i64 O.sr, .int .i64 O.tt, .int .i64 O.tr, .int .i64 O.rr] 63)).drew = .ok (.slice ao' (s2.L.length + 1) c') w' := hAPP
    have h3D : wN.cell? ⟨rb, 1, none⟩ = some (.slice ao2 s2.L.length cc2) := (HB3.far (Far.refl [] _).drew (by simp)).cells.2.1
    have HBA := HB3.far ((Far.refl [] _).drew.alloc (.cells #[.int .i64 O.id, .int .i64 O.fr, .int .i64 O.to, .int .i64 O.se, .int .i64 O.ac, .int .i64 O.lo, .int .i64 O.pa, .int .i64 O.hi, .int .i64 O.dr, .int .i64 O.n, .int .i64 O.st, .int .i64 O.sr, .int .i64 O.tt, .int .i64 O.tr, .int .i64 O.rr] 63)) (by simp)
    have h3A : (wN.alloc (.cells #[.int .i64 O.id, .int .i64 O.fr, .int .i64 O.to, .int .i64 O.se, .int .i64 O.ac, .int .i64 O.lo, .int .i64 O.pa, .int .i64 O.hi, .int .i64 O.dr, .int .i64 O.n, .int .i64 O.st, .int .i64 O.sr, .int .i64 O.tt, .int .i64 O.tr, .int .i64 O.rr] 63)).cell? ⟨rb, 1, none⟩ = some (.slice ao2 s2.L.length cc2) := HBA.cells.2.1
    have hnb : rb ∉ (if 0 < cc2 then [g2] else []) := by
      split
      · rename_i hc; simp; exact fun e => (HB3.ng hc).1 e.symm
      · simp
    have OBW := (HB3.far (Far.refl [] _).drew (by simp)).ob.far hFar hnb
    have h3W : w'.cell? ⟨rb, 1, none⟩ = some (.slice ao2 s2.L.length cc2) := OBW.cell rfl
    have hfW : w'.frozen? ⟨rb, 1, none⟩ = false := OBW.f 1
    have hnN : bN ∉ (if 0 < cc2 then [g2] else []) := by
      split
      · rename_i hc; simp; have := hSlow _ (HB3.ng hc).2.2.2; omega
      · simp
    have OOW := (OO.far (Far.refl [] _).drew (by simp)).far hFar hnN
    have OO4 := OOW.setCell_other (b := rb) (o := 1) (v := .slice ao' (s2.L.length + 1) c') (by omega)
    have hwsz : wN.heap.size ≤ w'.heap.size := hFar.size
    have G4 : Goes S S' w (w'.setCell ⟨rb, 1, none⟩ (.slice ao' (s2.L.length + 1) c')) := (F3.trans ⟨(Far.refl _ _).drew, fun k hk => .inl hk⟩).trans HG4
    clear OOW OO OBW HB3 HBA hFar hMis hVO hnb hnN F3 HG4 hg'
    go_cut [] (fun wx => wx = w'.setCell ⟨rb, 1, none⟩ (.slice ao' (s2.L.length + 1) c'))
    case first =>
      clear HB4 OO4 G4 hAPP
      go_region
      all_goals go_wp2_with fail
      all_goals go_meet
      all_goals rfl
    case rest =>
      subst hcut
      clear hAPP hAPP2 hO1 hBS h3D h3A h3W hfW
      generalize w'.setCell ⟨rb, 1, none⟩ (.slice ao' (s2.L.length + 1) c') = W3 at *
      obtain ⟨c0, c1, c2, c3, c4, fz⟩ := HB4.cells
      have HB5 := HB4.bump (s2.begun + 1)
      have HB6 := HB5.1.tick a
      have hne : ¬ bN = rb := by omega
      have n0 : W3.cell? ⟨bN, 0, none⟩ = some (.int .i64 O.id) := OO4.cell rfl
      have G6 : Goes S S' w ((W3.setCell ⟨rb, 2, none⟩ (.int .i64 (s2.begun + 1))).setCell ⟨rb, 4, none⟩ (.int .i64 a)) := G4.trans ⟨(HB5.2.trans HB6.2).mono (by simp; exact HB4.m1), fun k hk => .inl hk⟩
      have HB7 : Rka ((W3.setCell ⟨rb, 2, none⟩ (.int .i64 (s2.begun + 1))).setCell ⟨rb, 4, none⟩ (.int .i64 a)) rb S' (bgL s a) := by
        refine ⟨lb2, B2, lv2, ao', g', o', c', ?_⟩
        have := HB6.1
        rw [E.out.2.2, ← HO.out, HO2.out]
        rw [← HS2.out] at this ⊢
        exact this
      clear HB4 HB5 HB6 OO4 G4
      go_wp2_with fail
      go_ret2
      exact ⟨by rw [E.out.1, E.out.2.1, HBG.out, HID.out]; rfl, S', HB7, G6⟩
end Go.Proofs.Ytpaalpnoppblaaa

/-! Z16 -/
namespace Go.Proofs.Ytpaalpnoppblaaa
open Go.RowKit Go.Maps
set_option linter.unusedVariables false
set_option maxRecDepth 8000
attribute [local go_sem ↓] ldM_shut stM_shut
set_option maxHeartbeats 4000000 in
theorem rbsend_any (rb lb B : Nat) (lv : Value) (ao : Option Addr) (g o c : Nat) (S : List Nat) (s : Bk) (hf : Fit s) (z a : Int) (z0 : -9223372036854775808 ≤ z) (z1 : z ≤ 9223372036854775807) (a0 : -9223372036854775808 ≤ a) (a1 : a ≤ 9223372036854775807) (hb : s.begun ≤ 4611686018427387904) (w : World) (HR : Rks w rb lb B lv ao g o c S s) :
    Calls Try.prog 25 #[.pointer (some ⟨rb, 0, none⟩), .int .i64 z, .int .i64 a] w fun e w' => e = .returned (.tuple #[.int .u64 (sdV s z a), .int .i64 (sdE s z a)]) ∧ ∃ S', Rka w' rb S' (sdL s z a) ∧ Goes S S' w w' := by
  have hlen := hf.len
  have hb0 := hf.b0
  go_enter Try.func25, Try.ntmps25
  go_wp2_with fail
  refine (rearly_any rb lb B lv ao g o c S s hf.n0 a _ HR).mono ?_
  rintro e w1 ⟨rfl, hw1⟩
  have HR1 := HR.below hw1
  have F1 : Far S w w1 := (Far.of_below hw1).mono (by simp)
  obtain ⟨c0, c1, c2, c3, c4, fz⟩ := HR1.cells
  by_cases he : earlyP s a
  · have E : Hid (sdE s z a = 10 ∧ sdV s z a = 0 ∧ sdL s z a = s) := ⟨by simp [sdE, he], by simp [sdV, sdE, he], by simp [sdL, sdE, he]⟩
    rw [decide_eq_true he]
    go_wp2_with fail
    go_ret2
    exact ⟨by rw [E.out.1, E.out.2.1]; rfl, S, by rw [E.out.2.2]; exact ⟨_, _, _, _, _, _, _, HR1⟩, F1, fun k hk => .inl hk⟩
  rw [decide_eq_false he]
  by_cases hn : s.L = []
  · have E : Hid (sdE s z a = 15 ∧ sdV s z a = 0 ∧ sdL s z a = s) := ⟨by simp [sdE, he, hn], by simp [sdV, sdE, he, hn], by simp [sdL, sdE, he, hn]⟩
    have hl0 : s.L.length = 0 := by rw [hn]; rfl
    rw [hl0] at c1
    clear hn
    go_wp2_with fail
    go_ret2
    exact ⟨by rw [E.out.1, E.out.2.1]; rfl, S, by rw [E.out.2.2]; exact ⟨_, _, _, _, _, _, _, HR1⟩, F1, fun k hk => .inl hk⟩
  obtain ⟨hl0, hlm, hli, hlt, hlf, hlmem⟩ := hf.last_id hn
  obtain ⟨j, hj⟩ : ∃ j, s.L.length = j + 1 := ⟨s.L.length - 1, by omega⟩
  have hjl : j < s.L.length := by omega
  have hjm : s.L[j] = lastM s := by
    have e : j = s.L.length - 1 := by omega
    subst e; exact hlm
  have hu : ∀ k (hk : k < s.L.length), (s.L[k]).id = s.begun - 1 ↔ k = j := fun k hk => by rw [hf.ids k hk]; omega
  have ELS : Hid _ := chg_const hjl hu (fun m => sendV m z)
  obtain ⟨rfl, hg⟩ := HR1.row.value hjl
  obtain ⟨m, hm⟩ : ∃ m, lastM s = m := ⟨_, rfl⟩
  rw [hm] at hjm hli
  have HJM : Hid (s.L[j] = m) := hjm
  have HJ : Hid (s.L.length = j + 1) := hj
  have HLM : Hid (lastM s = m) := hm
  have HN : Hid (¬ s.L = []) := hn
  have HE : Hid (¬ earlyP s a) := he
  have T := fun w => refSend_any m z w
  obtain ⟨EE, hEE⟩ : ∃ x, sendE m z = x := ⟨_, rfl⟩
  have HEE : Hid (sendE m z = EE) := hEE
  rw [hEE] at T
  obtain ⟨V, hV⟩ : ∃ V, sendV m z = V := ⟨_, rfl⟩
  have HVI : Hid (EE = 0 → V.id = s.begun - 1) := fun h0 => by
    obtain ⟨_, _, _, _, hsv, _⟩ := send_yes (m := m) (s := z) (by rw [hEE]; exact h0)
    rw [← hV, hsv]; exact hli
  have HV : Hid (sendV m z = V) := hV
  rw [hV] at T
  rw [hj] at c1
  have hj0 : ¬ ((j : Int) + 1 = 0) := by omega
  obtain ⟨VM, hVM⟩ : ∃ x : Value, x = .agg #[.int .i64 m.id, .int .i64 m.fr, .int .i64 m.to, .int .i64 m.se, .int .i64 m.ac, .int .i64 m.lo, .int .i64 m.pa, .int .i64 m.hi, .int .i64 m.dr, .int .i64 m.n, .int .i64 m.st, .int .i64 m.sr, .int .i64 m.tt, .int .i64 m.tr, .int .i64 m.rr] := ⟨_, rfl⟩
  obtain ⟨VN, hVN⟩ : ∃ x : Value, x = .agg #[.int .i64 V.id, .int .i64 V.fr, .int .i64 V.to, .int .i64 V.se, .int .i64 V.ac, .int .i64 V.lo, .int .i64 V.pa, .int .i64 V.hi, .int .i64 V.dr, .int .i64 V.n, .int .i64 V.st, .int .i64 V.sr, .int .i64 V.tt, .int .i64 V.tr, .int .i64 V.rr] := ⟨_, rfl⟩
  have hM : ∀ w3 : World, Below w1.heap.size w1 w3 → (ldM (.pointer (some ⟨g, o + j * 15, none⟩))).run Try.prog w3 = .ok VM w3 := fun w3 hb => by
    rw [hVM]; exact ldM_run (by have := (HR1.below hb).row.els j hjl; rw [hjm] at this; exact this)
  have hC1 : ∀ w3 : World, Below w1.heap.size w1 w3 → w3.cell? ⟨rb, 1, none⟩ = some (.slice (some ⟨g, o, none⟩) (j + 1) c) := fun w3 hb => by
    have := (HR1.below hb).cells.2.1; rw [HJ.out] at this; exact this
  have hSN : ∀ w3 : World, (stM (.pointer (some ⟨w3.heap.size, 0, none⟩)) VN).run Try.prog (w3.alloc (.cells #[.int .i64 0, .int .i64 0, .int .i64 0, .int .i64 0, .int .i64 0, .int .i64 0, .int .i64 0, .int .i64 0, .int .i64 0, .int .i64 0, .int .i64 0, .int .i64 0, .int .i64 0, .int .i64 0, .int .i64 0] 63)) = .ok () ((w3.alloc (.cells #[.int .i64 0, .int .i64 0, .int .i64 0, .int .i64 0, .int .i64 0, .int .i64 0, .int .i64 0, .int .i64 0, .int .i64 0, .int .i64 0, .int .i64 0, .int .i64 0, .int .i64 0, .int .i64 0, .int .i64 0] 63)).setCells w3.heap.size 0 (listM V)) := fun w3 => by
    rw [hVN]; exact stM_new V w3
  have HVN : Hid (VN = .agg #[.int .i64 V.id, .int .i64 V.fr, .int .i64 V.to, .int .i64 V.se, .int .i64 V.ac, .int .i64 V.lo, .int .i64 V.pa, .int .i64 V.hi, .int .i64 V.dr, .int .i64 V.n, .int .i64 V.st, .int .i64 V.sr, .int .i64 V.tt, .int .i64 V.tr, .int .i64 V.rr]) := hVN
  have hjb0 : (0 : Int) ≤ (j : Int) := by omega
  have hjb1 : (j : Int) < (j : Int) + 1 := by omega
  have hjb2 : (j : Int) ≤ 64 := by omega
  have hjb3 : IntKind.i64.wrap (j : Int) = (j : Int) := by unfold IntKind.wrap; simp [IntKind.bits, IntKind.signed]; omega
  have hbg : 1 ≤ s.begun := by omega
  rw [← hVM, ← hVN] at T
  clear hlm hlf hlmem hl0 hn hj hjm hm hV hVM hVN hli hEE hu he hw1
  go_upto_region 5 with fail
  go_cut [8, 9] (fun s8 s9 wx => ∃ b, s8 = .pointer (some ⟨b, 0, none⟩) ∧ s9 = .int .i64 EE ∧ Ob wx b (listM V) ∧ w1.heap.size ≤ b ∧ Below w1.heap.size w1 wx)
  case first =>
    --@slow
    clear HR HR1 F1
    go_region_held3 (fun w' => Below w1.heap.size w1 w')
      (first | with_reducible exact below_new (by assumption) | with_reducible exact below_old (by assumption) | go_grown)
      (first
        | (go_at_call 51; refine (T _).mono ?_; rintro e w3 ⟨rfl, hw3⟩; have g1 : Below w1.heap.size w1 w3 := Below.call (by go_grown) (by simp) hw3; have z1 := g1.size; try (have hst := st_old (V := V) (w := w1) (by with_reducible exact below_drew hw3); have hob := ob_old (V := V) (w := w1) (by with_reducible exact below_drew hw3); rw [← HVN.out] at hst)))
    all_goals go_wp2_with fail
    all_goals go_meet
    all_goals first | exact ⟨w1.heap.size, rfl, rfl, hob, Nat.le_refl _, below_old g1⟩ | exact ⟨w3.heap.size, rfl, rfl, ob_new V w3, g1.size, below_new g1⟩
    --@fast
  case rest =>
    obtain ⟨b, rfl, rfl, OO, hbb, hw2⟩ := hcut
    have HR2 := HR1.below hw2
    have F2 : Far S w wc := F1.below hw2
    have hlow : ∀ k ∈ S, k < w1.heap.size := HR1.low
    clear HR HR1 hM hC1 hSN T hw2 F1 c0 c1 c2 c3 c4 fz
    obtain ⟨c0, c1, c2, c3, c4, fz⟩ := HR2.cells
    by_cases hE0 : EE = 0
    rotate_left
    · have E : Hid (sdE s z a = EE ∧ sdV s z a = 0 ∧ sdL s z a = s) := by
        have e : sdE s z a = EE := by unfold sdE; rw [if_neg HE.out, if_neg HN.out, HLM.out, HEE.out, if_pos hE0]
        exact ⟨e, by unfold sdV; rw [if_neg (by rw [e]; exact hE0)], by unfold sdL; rw [if_neg (by rw [e]; exact hE0)]⟩
      go_wp2_with fail
      go_ret2
      exact ⟨by rw [E.out.1, E.out.2.1]; rfl, S, by rw [E.out.2.2]; exact ⟨_, _, _, _, _, _, _, HR2⟩, F2, fun k hk => .inl hk⟩
    subst hE0
    have HVI2 : Hid (V.id = s.begun - 1) := HVI.out rfl
    have n0 : wc.cell? ⟨b, 0, none⟩ = some (.int .i64 (s.begun - 1)) := by have : wc.cell? ⟨b, 0, none⟩ = some (.int .i64 V.id) := OO.cell rfl; rw [HVI2.out] at this; exact this
    have HLD := HR2.led.far2 (Far.refl [] wc).drew (by simp) (by simp)
    go_upto_region 8 with fail
    go_cut [10, 11] (fun s10 s11 wx => s10 = .int .u64 (seqv s.l (s.begun - 1) z a) ∧ s11 = .int .i64 (refv s.l (s.begun - 1) z a) ∧ (∃ v', RLed B lb wx v' (sentL s.l (s.begun - 1) z a) ∧ ∀ q, v'.ownBlock = some q → lv.ownBlock = some q ∨ wc.heap.size ≤ q) ∧ Far (lb :: lv.ownBlock.toList) wc wx)
    case first =>
      --@slow
      clear HR2 F2 OO
      go_region_with (first | (go_at_call 52; refine (rsend_any B lb lv s.l hf.ok (s.begun - 1) z a (by omega) (by omega) z0 z1 a0 a1 _ HLD).mono ?_; rintro e w3 ⟨rfl, HL3, F3⟩))
      all_goals go_wp2_with fail
      all_goals go_meet
      all_goals exact ⟨rfl, rfl, HL3, (Far.refl _ wc).drew.trans F3⟩
      --@fast
    case rest =>
      obtain ⟨rfl, rfl, ⟨lv', HL3, hlv⟩, F3⟩ := hcut
      obtain ⟨S3, HR3, G3⟩ := HR2.ledger F3 (fun k hk => by simpa [eq_comm] using hk) HL3 hlv
      have hbS : b ∉ lb :: lv.ownBlock.toList := by
        simp only [List.mem_cons, Option.mem_toList, not_or]
        exact ⟨by have := hlow _ HR2.m2; omega, fun e => by have := hlow _ (HR2.nv _ e).2.2; omega⟩
      have OO3 := OO.far F3 hbS
      have GW : Goes S S3 w wc := (⟨F2, fun k hk => .inl hk⟩ : Goes S S w _).trans G3
      clear HR2 OO F2 F3 HL3 HLD c0 c1 c2 c3 c4 fz n0 hlv G3
      by_cases hr : refv s.l (s.begun - 1) z a = 0
      rotate_left
      · have E : Hid (sdE s z a = refv s.l (s.begun - 1) z a ∧ sdV s z a = 0 ∧ sdL s z a = s) := by
          have e : sdE s z a = refv s.l (s.begun - 1) z a := by unfold sdE; rw [if_neg HE.out, if_neg HN.out, HLM.out, HEE.out, if_neg (by omega)]
          exact ⟨e, by unfold sdV; rw [if_neg (by rw [e]; exact hr)], by unfold sdL; rw [if_neg (by rw [e]; exact hr)]⟩
        have HSL : Hid (sentL s.l (s.begun - 1) z a = s.l) := by unfold sentL; exact if_neg hr
        have HR4 : Rka wc rb S3 s := by rw [HSL.out] at HR3; exact ⟨_, _, _, _, _, _, _, HR3⟩
        clear HR3 HSL
        generalize refv s.l (s.begun - 1) z a = RV at *
        go_wp2_with fail
        go_ret2
        exact ⟨by rw [E.out.1, E.out.2.1]; rfl, S3, by rw [E.out.2.2]; exact HR4, GW⟩
      · have e : sdE s z a = 0 := by unfold sdE; rw [if_neg HE.out, if_neg HN.out, HLM.out, HEE.out, if_neg (by omega)]; exact hr
        have E : Hid (sdE s z a = 0 ∧ sdV s z a = seqv s.l (s.begun - 1) z a ∧ sdL s z a = { s with l := sentL s.l (s.begun - 1) z a, now := a, L := chg s.L (s.begun - 1) (fun _ => V) }) := by
          refine ⟨e, ?_, ?_⟩
          · unfold sdV seqv; rw [if_pos e, if_pos hr]
          · unfold sdL; rw [if_pos e, ← ELS.out, HJM.out, HV.out]
        clear e
        rw [hr]
        have hLM : (ldM (.pointer (some ⟨b, 0, none⟩))).run Try.prog wc = .ok (.agg #[.int .i64 V.id, .int .i64 V.fr, .int .i64 V.to, .int .i64 V.se, .int .i64 V.ac, .int .i64 V.lo, .int .i64 V.pa, .int .i64 V.hi, .int .i64 V.dr, .int .i64 V.n, .int .i64 V.st, .int .i64 V.sr, .int .i64 V.tt, .int .i64 V.tr, .int .i64 V.rr]) wc := ldM_run OO3.c
        clear OO3
        generalize seqv s.l (s.begun - 1) z a = SV at *
        go_wp2_with fail
        refine (rput_any rb lb B lv' (some ⟨g, o, none⟩) g o c S3 { s with l := sentL s.l (s.begun - 1) z a } V hlen _ HR3).mono ?_
        rintro e w4 ⟨rfl, S4, ⟨lb4, B4, lv4, ao4, g4, o4, cc4, HR4⟩, G4⟩
        obtain ⟨c0, c1, c2, c3, c4, fz⟩ := HR4.cells
        have HR5 := HR4.tick a
        have G5 : Goes S S4 w (w4.setCell ⟨rb, 4, none⟩ (.int .i64 a)) := (GW.trans G4).trans ⟨HR5.2.mono (by simp; exact HR4.m1), fun k hk => .inl hk⟩
        have HR6 : Rka (w4.setCell ⟨rb, 4, none⟩ (.int .i64 a)) rb S4 (sdL s z a) := by
          have := HR5.1
          rw [HVI2.out] at this
          rw [E.out.2.2]; exact ⟨_, _, _, _, _, _, _, this⟩
        clear HR3 HR4 HR5 G4 GW hLM
        go_wp2_with fail
        go_ret2
        exact ⟨by rw [E.out.1, E.out.2.1]; rfl, S4, HR6, G5⟩
end Go.Proofs.Ytpaalpnoppblaaa
