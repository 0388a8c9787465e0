/-
  The program's books: an interval begins. No conditions but the books' own.
-/
import Derived.Test.YtpaalpnoppblaaaZ6
import Derived.Test.YtpaalpnoppblaaaU10
import Derived.Deep.RegionWith
import Derived.Deep.QuietTactic
namespace Go.Proofs.Ytpaalpnoppblaaa
open Go.RowKit Go.Maps
set_option linter.unusedVariables false
set_option maxRecDepth 8000
/-- A row that has grown, and books that keep it. -/
theorem Bks.app {w w' : World} {bb lb mb : Nat} {ao : Option Addr} {g o c : Nat} {S : List Nat} {s : Bk} (h : Bks w bb lb mb ao g o c S s) {ao' : Option Addr} {g' o' c' : Nat} {m : Mi}
    (hM : Mis w' ao' g' o' (s.L.length + 1) c' (s.L ++ [m])) (hF : Far (if 0 < c then [g] else []) w w') (hg : 0 < c' → (g' = g ∧ 0 < c) ∨ w.heap.size ≤ g') :
    ∃ S', Bks (w'.setCell ⟨bb, 3, none⟩ (.slice ao' (s.L.length + 1) c')) bb lb mb ao' g' o' c' S' { s with L := s.L ++ [m] } ∧ Goes S S' w (w'.setCell ⟨bb, 3, none⟩ (.slice ao' (s.L.length + 1) c')) := by
  have hc' : 0 < c' := by have := hM.cap; omega
  have hnot : ∀ k ∈ [bb, lb, mb], k ∉ (if 0 < c then [g] else []) ∧ k < w.heap.size := fun k hk => by
    have hlow : k < w.heap.size := by
      simp only [List.mem_cons, List.not_mem_nil, or_false] at hk
      rcases hk with rfl | rfl | rfl
      · exact h.low _ h.m1
      · exact h.low _ h.m2
      · exact h.low _ h.m3
    refine ⟨?_, hlow⟩
    split
    · rename_i hc
      have := h.ng hc
      simp only [List.mem_cons, List.not_mem_nil, or_false] at hk ⊢
      rcases hk with rfl | rfl | rfl <;> omega
    · simp
  have hb := hnot bb (by simp); have hl := hnot lb (by simp); have hm := hnot mb (by simp)
  have g1 : g' ≠ bb ∧ g' ≠ lb ∧ g' ≠ mb := by
    rcases hg hc' with ⟨rfl, hc⟩ | h1
    · have := h.ng hc; exact ⟨this.1, this.2.1, this.2.2.1⟩
    · omega
  have OB := h.ob.far hF hb.1
  have T := Turn.cell OB (o := 3) (v := .slice ao' (s.L.length + 1) c') (us := bcells lb ao' c' { s with L := s.L ++ [m] }) (by
    have e : bcells lb ao' c' { s with L := s.L ++ [m] } = [.pointer (some ⟨lb, 0, none⟩), .int .i64 s.now, .int .i64 s.timeout, .slice ao' (s.L.length + 1) c', .int .i64 s.begun] := by simp [bcells]
    rw [e]; unfold bcells; repeat (first | exact SetAt.z | apply SetAt.s))
  have F2 : Far [bb] w' (w'.setCell ⟨bb, 3, none⟩ (.slice ao' (s.L.length + 1) c')) := (Far.refl _ _).setCell (.inr (by simp)) _ _
  have hFS : Far S w w' := hF.mono (fun k hk => by
    split at hk
    · rename_i hc; rw [List.mem_singleton] at hk; rw [hk]; exact (h.ng hc).2.2.2
    · cases hk)
  refine ⟨g' :: S, ⟨T.here, (h.led.far hF hl.1 hm.1).far F2 (by simp; exact h.n1.symm) (by simp; exact h.n2.symm), by have := hM.far F2 (fun _ => by simp; exact g1.1); simpa using this, h.n1, h.n2, fun _ => ⟨g1.1, g1.2.1, g1.2.2, by simp⟩, by simp [h.m1], by simp [h.m2], by simp [h.m3], fun k hk => ?_⟩, ⟨hFS.trans (F2.mono (by simp; exact h.m1)), fun k hk => ?_⟩⟩
  · rw [World.size_setCell]
    rcases List.mem_cons.1 hk with rfl | hk
    · exact hM.lt hc'
    · exact Nat.lt_of_lt_of_le (h.low k hk) hF.size
  · rcases List.mem_cons.1 hk with rfl | hk
    · rcases hg hc' with ⟨rfl, hc⟩ | h1
      · exact .inl (h.ng hc).2.2.2
      · exact .inr h1
    · exact .inl hk
/-- The number of intervals turned. -/
theorem Bks.bump {w : World} {bb lb mb : Nat} {ao : Option Addr} {g o c : Nat} {S : List Nat} {s : Bk} (h : Bks w bb lb mb ao g o c S s) (x : Int) : Bks (w.setCell ⟨bb, 4, none⟩ (.int .i64 x)) bb lb mb ao g o c S { s with begun := x } ∧ Far [bb] w (w.setCell ⟨bb, 4, none⟩ (.int .i64 x)) := by
  have F : Far [bb] w (w.setCell ⟨bb, 4, none⟩ (.int .i64 x)) := (Far.refl _ _).setCell (.inr (by simp)) _ _
  have T := Turn.cell h.ob (o := 4) (v := .int .i64 x) (us := bcells lb ao c { s with begun := x }) (by unfold bcells; repeat (first | exact SetAt.z | apply SetAt.s))
  exact ⟨⟨T.here, h.led.far F (by simp; exact h.n1.symm) (by simp; exact h.n2.symm), h.row.far F (fun hc => by simp; exact (h.ng hc).1), h.n1, h.n2, h.ng, h.m1, h.m2, h.m3, fun k hk => by rw [World.size_setCell]; exact h.low k hk⟩, F⟩
theorem Fit.last_set {s : Bk} (h : Fit s) {j : Nat} (hjl : j < s.L.length) (hj : s.L.length = j + 1) (f : Mi → Mi) : s.L.set j (f (s.L[j]'hjl)) = chg s.L (s.begun - 1) f := by
  refine chg_set (by omega) (fun k hk => ?_) f
  rw [h.ids k hk]; omega
attribute [local go_sem ↓] ldM_shut stM_shut append_shut bsM_shut
set_option maxHeartbeats 4000000 in
theorem begin_any (bb lb mb : Nat) (ao : Option Addr) (g o c : Nat) (S : List Nat) (s : Bk) (hf : Fit s) (a : Int) (a0 : -9223372036854775808 ≤ a) (a1 : a ≤ 9223372036854775807) (hb : s.begun ≤ 4611686018427387904) (w : World) (HB : Bks w bb lb mb ao g o c S s) :
    Calls Try.prog 37 #[.pointer (some ⟨bb, 0, none⟩), .int .i64 a] w fun e w' => e = .returned (.tuple #[.int .i64 (bgV s a), .int .i64 (bgE s a)]) ∧ ∃ S', Bka w' bb S' (bgL s a) ∧ Goes S S' w w' := by
  obtain ⟨c0, c1, c2, c3, c4, fz⟩ := HB.cells
  have hlen := hf.len
  have hb0 := hf.b0
  go_enter Try.func37, Try.ntmps37
  by_cases he : earlyP s a
  · have E : Hid (bgE s a = 10 ∧ bgV s a = 0 ∧ bgL s a = s) := ⟨by simp [bgE, he], by simp [bgV, bgE, he], by simp [bgL, bgE, he]⟩
    go_wp2_with fail
    refine (early_yes he _).mono ?_
    rintro e w1 ⟨rfl, hw1⟩
    go_wp2_with fail
    go_ret2
    exact ⟨by rw [E.out.1, E.out.2.1]; rfl, S, by rw [E.out.2.2]; exact ⟨_, _, _, _, _, _, HB.below hw1⟩, (Far.of_below hw1).mono (by simp), fun k hk => .inl hk⟩
  by_cases h64 : s.L.length = 64
  · have E : Hid (bgE s a = 2 ∧ bgV s a = 0 ∧ bgL s a = s) := ⟨by simp [bgE, he, h64], by simp [bgV, bgE, he, h64], by simp [bgL, bgE, he, h64]⟩
    go_wp2_with fail
    refine (early_no he _).mono ?_
    rintro e w1 ⟨rfl, hw1⟩
    have HB1 := HB.below hw1
    clear c0 c1 c2 c3 c4 fz
    obtain ⟨c0, c1, c2, c3, c4, fz⟩ := HB1.cells
    rw [h64] at c3
    clear HB
    go_wp2_with fail
    go_ret2
    exact ⟨by rw [E.out.1, E.out.2.1]; rfl, S, by rw [E.out.2.2]; exact ⟨_, _, _, _, _, _, HB1⟩, (Far.of_below hw1).mono (by simp), fun k hk => .inl hk⟩
  have E : Hid (bgE s a = 0 ∧ bgV s a = s.begun ∧ bgL s a = { s with now := a, begun := s.begun + 1, L := chg s.L (s.begun - 1) (fun m => closeV m a) ++ [openV s.begun a] }) := ⟨by simp [bgE, he, h64], by simp [bgV, bgE, he, h64], by simp [bgL, bgE, he, h64]⟩
  have he' : Hid (¬ earlyP s a) := he
  go_wp2_with fail
  refine (early_no he _).mono ?_
  rintro e w1 ⟨rfl, hw1⟩
  have HB1 := HB.below hw1
  clear c0 c1 c2 c3 c4 fz he
  obtain ⟨c0, c1, c2, c3, c4, fz⟩ := HB1.cells
  have h64' : ¬ ((s.L.length : Int) = 64) := by omega
  go_upto_if 30 with fail
  go_cut [6, 16] (fun s6 s16 wx => Bks wx bb lb mb ao g o c S { s with L := chg s.L (s.begun - 1) (fun m => closeV m a) } ∧ Far S w wx)
  case first =>
    --@slow
    by_cases hn : s.L.length = 0
    · have hnil : s.L = [] := List.eq_nil_of_length_eq_zero hn
      have hng : decide ((0 : Int) ≤ (s.L.length : Int) - 1) = false := decide_eq_false (by omega)
      have e1 : ({ s with L := chg s.L (s.begun - 1) (fun m => closeV m a) } : Bk) = s := by rw [hnil]; cases s; simp at hnil; subst hnil; rfl
      have E1 : Hid _ := e1
      clear e1
      go_wp2_with fail
      go_meet
      case rel => rw [E1.out]; exact ⟨HB1, (Far.of_below hw1).mono (by simp)⟩
    · obtain ⟨j, hj⟩ : ∃ j, s.L.length = j + 1 := ⟨s.L.length - 1, by omega⟩
      have hjl : j < s.L.length := by omega
      have ELS : Hid _ := hf.last_set hjl hj (fun m => closeV m a)
      obtain ⟨rfl, hg⟩ := HB1.row.value hjl
      obtain ⟨m, hm⟩ : ∃ m, s.L[j] = m := ⟨_, rfl⟩
      have HM : Hid (s.L[j] = m) := hm
      have HJ : Hid (s.L.length = j + 1) := hj
      have T := fun w => close_any m a w
      obtain ⟨V, hV⟩ : ∃ V, closeV m a = V := ⟨_, rfl⟩
      rw [hV] at T
      have HV : Hid (closeV m a = V) := hV
      clear hV
      generalize closeE m a = EE at *
      rw [hj] at c3
      simp only [hj, Int.natCast_add, Int.natCast_one, Int.add_sub_cancel]
      obtain ⟨VM, hVM⟩ : ∃ x : Value, x = .agg #[.int .i64 m.id, .int .i64 m.fr, .int .i64 m.to, .int .i64 m.se, .int .i64 m.ac, .int .i64 m.lo, .int .i64 m.pa, .int .i64 m.hi, .int .i64 m.dr, .int .i64 m.n, .int .i64 m.st, .int .i64 m.sr, .int .i64 m.tt, .int .i64 m.tr, .int .i64 m.rr] := ⟨_, rfl⟩
      obtain ⟨VN, hVN⟩ : ∃ x : Value, x = .agg #[.int .i64 V.id, .int .i64 V.fr, .int .i64 V.to, .int .i64 V.se, .int .i64 V.ac, .int .i64 V.lo, .int .i64 V.pa, .int .i64 V.hi, .int .i64 V.dr, .int .i64 V.n, .int .i64 V.st, .int .i64 V.sr, .int .i64 V.tt, .int .i64 V.tr, .int .i64 V.rr] := ⟨_, rfl⟩
      have hM : (ldM (.pointer (some ⟨g, o + j * 15, none⟩))).run Try.prog w1.drew = .ok VM w1.drew := by
        rw [hVM]; exact ldM_run (by have := HB1.row.els j hjl; rw [hm] at this; exact this)
      have hST : ∀ w3 : World, Below w1.drew.heap.size w1.drew w3 → (stM (.pointer (some ⟨g, o + j * 15, none⟩)) VN).run Try.prog w3 = .ok () (w3.setCells g (o + j * 15) (listM V)) := fun w3 hb => by
        rw [hVN]; exact stM_run ((HB1.below (w1 := w3) (below_drew hb)).row.there' hjl)
      have hC3 : ∀ w3 : World, Below w1.drew.heap.size w1.drew w3 → w3.cell? ⟨bb, 3, none⟩ = some (.slice (some ⟨g, o, none⟩) (j + 1) c) := fun w3 hb => by
        have := (HB1.below (w1 := w3) (below_drew hb)).cells.2.2.2.1; rw [HJ.out] at this; exact this
      rw [← hVM, ← hVN] at T
      have HE : Hid (∀ w3 : World, Below w1.drew.heap.size w1.drew w3 → Bks (w3.setCells g (o + j * 15) (listM V)) bb lb mb (some ⟨g, o, none⟩) g o c S { s with L := s.L.set j V } ∧ Far S w (w3.setCells g (o + j * 15) (listM V))) := fun w3 hb => by
        have h3 := (HB1.below (w1 := w3) (below_drew hb)).put hjl V
        have hS : ∀ k ∈ [g], k ∈ S := fun k hk => by rw [List.mem_singleton] at hk; rw [hk]; exact (HB.ng (by have := HB.row.cap; omega)).2.2.2
        exact ⟨h3.1, (((Far.of_below hw1).below (w2 := w3) (below_drew hb)).mono (by simp)).trans (h3.2.mono hS)⟩
      clear HB HB1 hm hj hVM hVN hw1
      go_upto_region 7 with fail
      go_region_with (first | (go_at_call 59; refine (T _).mono ?_; rintro e w3 ⟨rfl, hw3⟩; have hst := hST w3 hw3; have k3 := hC3 w3 hw3))
      all_goals have HEE := HE.out _ hw3
      all_goals go_wp2_with fail
      all_goals go_meet
      all_goals (rw [← ELS.out, HM.out, HV.out]; exact HEE)
    --@fast
  case rest =>
    obtain ⟨HB2, F2⟩ := hcut
    have hbeg : HB2 = HB2 := rfl
    clear HB1 HB c0 c1 c2 c3 c4 fz hbeg
    have hL2 : (chg s.L (s.begun - 1) (fun m => closeV m a)).length = s.L.length := chg_length _ _ _
    have HL2 : Hid _ := hL2
    have ho := opened (i := s.begun) (a := a) (by omega) (by have := he'.out; unfold earlyP at this; have := hf.n0; omega) (by have := he'.out; unfold earlyP at this; omega)
    have hid : (openV s.begun a).id = s.begun := by rw [ho.2]
    obtain ⟨s2, hs2⟩ : ∃ s2 : Bk, ({ s with L := chg s.L (s.begun - 1) (fun m => closeV m a) } : Bk) = s2 := ⟨_, rfl⟩
    have HS2 : Hid _ := hs2
    rw [hs2] at HB2
    have hbg : s.begun = s2.begun := by rw [← hs2]
    have T := fun w => aopen_any s2.begun a w
    have hs2l : s2.L.length ≤ 64 := by rw [← hs2]; show (chg s.L (s.begun - 1) (fun m => closeV m a)).length ≤ 64; rw [hL2]; exact hlen
    rw [hbg] at hid hb hb0
    have HO : Hid (openV s2.begun a = openV s.begun a) := by show _ = _; rw [hbg]
    obtain ⟨O, hO⟩ : ∃ O, openV s2.begun a = O := ⟨_, rfl⟩
    rw [hO] at hid
    rw [hO] at T
    have HO2 : Hid (openV s2.begun a = O) := hO
    have HBG : Hid (s.begun = s2.begun) := hbg
    have HID : Hid (O.id = s2.begun) := hid
    generalize openE s2.begun a = EE at *
    have hb2 : 0 ≤ s2.begun := by have := hf.b0; omega
    clear hL2 ho hs2 hbg hO hid hb0 h64 h64' hlen
    obtain ⟨c0, c1, c2, c3, c4, fz⟩ := HB2.cells
    have H := Heap.nil wc
    go_upto_region 9 with (first | ((first | ((with_reducible refine at_plain ?_); intro K hK) | go_guarded); first | ((with_reducible refine at_ld ?_); first | (refine wpH_ldA (ty := 63) rfl rfl H (by repeat (first | exact Found.here | apply Found.there)) (by exact row63) ?_) | (refine wpH_ldA (ty := 89) rfl rfl H (by repeat (first | exact Found.here | apply Found.there)) (by exact row89) ?_) | (refine wpH_ldA (ty := 109) rfl rfl H (by repeat (first | exact Found.here | apply Found.there)) (by exact row109) ?_) | (refine wpH_ldA (ty := 57) rfl rfl H (by repeat (first | exact Found.here | apply Found.there)) (by exact row57) ?_) | (refine wpH_ld1 (ty := 3) rfl rfl H (by repeat (first | exact Found.here | apply Found.there)) one3 (by rfl) ?_) | (refine wpH_ld1 (ty := 4) rfl rfl H (by repeat (first | exact Found.here | apply Found.there)) one4 (by rfl) ?_) | (refine wpH_ld1 (ty := 26) rfl rfl H (by repeat (first | exact Found.here | apply Found.there)) one26 (by rfl) ?_) | (refine wpH_ld1 (ty := 22) rfl rfl H (by repeat (first | exact Found.here | apply Found.there)) one22 (by rfl) ?_) | (refine wpH_ld1 (ty := 91) rfl rfl H (by repeat (first | exact Found.here | apply Found.there)) one91 (by rfl) ?_)) | ((with_reducible refine at_st ?_); first | (refine wpH_st1 (ty := 3) (v := .int _ _) rfl rfl rfl rfl rfl H one3 (by repeat (first | exact Found.here | apply Found.there)) (by repeat (first | exact SetAt.z | apply SetAt.s)) (by repeat (first | exact Turned.here | apply Turned.there)) ?_; clear H; intro wN H) | (refine wpH_st1 (ty := 4) (v := .int _ _) rfl rfl rfl rfl rfl H one4 (by repeat (first | exact Found.here | apply Found.there)) (by repeat (first | exact SetAt.z | apply SetAt.s)) (by repeat (first | exact Turned.here | apply Turned.there)) ?_; clear H; intro wN H) | (refine wpH_st1 (ty := 26) (v := .int _ _) rfl rfl rfl rfl rfl H one26 (by repeat (first | exact Found.here | apply Found.there)) (by repeat (first | exact SetAt.z | apply SetAt.s)) (by repeat (first | exact Turned.here | apply Turned.there)) ?_; clear H; intro wN H) | (refine wpH_st1 (ty := 22) (v := .int _ _) rfl rfl rfl rfl rfl H one22 (by repeat (first | exact Found.here | apply Found.there)) (by repeat (first | exact SetAt.z | apply SetAt.s)) (by repeat (first | exact Turned.here | apply Turned.there)) ?_; clear H; intro wN H) | (refine wpH_st1 (ty := 91) (v := .int _ _) rfl rfl rfl rfl rfl H one91 (by repeat (first | exact Found.here | apply Found.there)) (by repeat (first | exact SetAt.z | apply SetAt.s)) (by repeat (first | exact Turned.here | apply Turned.there)) ?_; clear H; intro wN H) | (refine wpH_stA (ty := 63) rfl rfl rfl H (by repeat (first | exact Turned.here | apply Turned.there)) (by exact row63) (by rfl) (by kernel_rfl) ?_; clear H; intro wN H) | (refine wpH_stA (ty := 89) rfl rfl rfl H (by repeat (first | exact Turned.here | apply Turned.there)) (by exact row89) (by rfl) (by kernel_rfl) ?_; clear H; intro wN H) | (refine wpH_stA (ty := 109) rfl rfl rfl H (by repeat (first | exact Turned.here | apply Turned.there)) (by exact row109) (by rfl) (by kernel_rfl) ?_; clear H; intro wN H) | (refine wpH_stA (ty := 57) rfl rfl rfl H (by repeat (first | exact Turned.here | apply Turned.there)) (by exact row57) (by rfl) (by kernel_rfl) ?_; clear H; intro wN H)) | ((with_reducible refine at_al ?_); refine wpH_al rfl (by first | exact zero63 | exact zero89 | exact zero109 | exact zero57) H ?_; clear H; intro bN wN H) | ((with_reducible refine at_bx ?_); refine wpH_bxA rfl rfl H ?_; clear H; intro bN wN H)) | (go_at_call 60; refine (T _).mono ?_; rintro e wN ⟨rfl, hw⟩; replace H := H.call hw; clear hw) | fail)
    have HB3 := HB2.below H.grown
    have OO := (H.found Found.here).2
    have hbN : wc.heap.size ≤ bN := (H.found Found.here).1
    have hbb : bb < wc.heap.size := HB2.low _ HB2.m1
    have hbN' : bN < wN.heap.size := OO.lt
    have F3 : Far S w wN := F2.trans ((Far.of_below H.grown).mono (by simp))
    have hSlow : ∀ k ∈ S, k < wc.heap.size := HB2.low
    clear HB2 F2 H c0 c1 c2 c3 c4 fz T
    obtain ⟨ao', g', o', c', w', hAPP, hMis, hFar, hg'⟩ := app_run 36 (HB3.row.far (Far.refl [] _).drew (by simp)) (by omega) O
    obtain ⟨S', HB4, HG4⟩ := (HB3.far (Far.refl [] _).drew (by simp)).app hMis hFar hg'
    obtain ⟨VO, hVO⟩ : ∃ x : Value, x = .agg #[.int .i64 O.id, .int .i64 O.fr, .int .i64 O.to, .int .i64 O.se, .int .i64 O.ac, .int .i64 O.lo, .int .i64 O.pa, .int .i64 O.hi, .int .i64 O.dr, .int .i64 O.n, .int .i64 O.st, .int .i64 O.sr, .int .i64 O.tt, .int .i64 O.tr, .int .i64 O.rr] := ⟨_, rfl⟩
    have hO1 : (ldM (.pointer (some ⟨bN, 0, none⟩))).run Try.prog wN.drew = .ok VO wN.drew := by
      rw [hVO]; exact ldM_run (OO.far (Far.refl [] _).drew (by simp)).c
    have hBS : (bsM 1 #[(0, .agg #[.int .i64 O.id, .int .i64 O.fr, .int .i64 O.to, .int .i64 O.se, .int .i64 O.ac, .int .i64 O.lo, .int .i64 O.pa, .int .i64 O.hi, .int .i64 O.dr, .int .i64 O.n, .int .i64 O.st, .int .i64 O.sr, .int .i64 O.tt, .int .i64 O.tr, .int .i64 O.rr])]).run Try.prog wN.drew = .ok (.slice (some ⟨wN.heap.size, 0, none⟩) 1 1) (wN.alloc (.cells #[.int .i64 O.id, .int .i64 O.fr, .int .i64 O.to, .int .i64 O.se, .int .i64 O.ac, .int .i64 O.lo, .int .i64 O.pa, .int .i64 O.hi, .int .i64 O.dr, .int .i64 O.n, .int .i64 O.st, .int .i64 O.sr, .int .i64 O.tt, .int .i64 O.tr, .int .i64 O.rr] 63)).drew := bsM_run O wN.drew
    rw [← hVO] at hBS
    have hAPP2 : (apx #[36, 36] 36 #[.slice ao s2.L.length c, .slice (some ⟨wN.heap.size, 0, none⟩) 1 1]).run Try.prog (wN.alloc (.cells #[.int .i64 O.id, .int .i64 O.fr, .int .i64 O.to, .int .i64 O.se, .int .i64 O.ac, .int .i64 O.lo, .int .i64 O.pa, .int .i64 O.hi, .int .i64 O.dr, .int .i64 O.n, .int .i64 O.st, .int .i64 O.sr, .int .i64 O.tt, .int .i64 O.tr, .int .i64 O.rr] 63)).drew = .ok (.slice ao' (s2.L.length + 1) c') w' := hAPP
    have h3D : wN.cell? ⟨bb, 3, none⟩ = some (.slice ao s2.L.length c) := (HB3.far (Far.refl [] _).drew (by simp)).cells.2.2.2.1
    have HBA := HB3.far ((Far.refl [] _).drew.alloc (.cells #[.int .i64 O.id, .int .i64 O.fr, .int .i64 O.to, .int .i64 O.se, .int .i64 O.ac, .int .i64 O.lo, .int .i64 O.pa, .int .i64 O.hi, .int .i64 O.dr, .int .i64 O.n, .int .i64 O.st, .int .i64 O.sr, .int .i64 O.tt, .int .i64 O.tr, .int .i64 O.rr] 63)) (by simp)
    have h3A : (wN.alloc (.cells #[.int .i64 O.id, .int .i64 O.fr, .int .i64 O.to, .int .i64 O.se, .int .i64 O.ac, .int .i64 O.lo, .int .i64 O.pa, .int .i64 O.hi, .int .i64 O.dr, .int .i64 O.n, .int .i64 O.st, .int .i64 O.sr, .int .i64 O.tt, .int .i64 O.tr, .int .i64 O.rr] 63)).cell? ⟨bb, 3, none⟩ = some (.slice ao s2.L.length c) := HBA.cells.2.2.2.1
    have hnb : bb ∉ (if 0 < c then [g] else []) := by
      split
      · rename_i hc; simp; exact fun e => (HB3.ng hc).1 e.symm
      · simp
    have OBW := (HB3.far (Far.refl [] _).drew (by simp)).ob.far hFar hnb
    have h3W : w'.cell? ⟨bb, 3, none⟩ = some (.slice ao s2.L.length c) := OBW.cell rfl
    have hfW : w'.frozen? ⟨bb, 3, none⟩ = false := OBW.f 3
    have hnN : bN ∉ (if 0 < c then [g] else []) := by
      split
      · rename_i hc; simp; have := hSlow _ (HB3.ng hc).2.2.2; omega
      · simp
    have OOW := (OO.far (Far.refl [] _).drew (by simp)).far hFar hnN
    have OO4 := OOW.setCell_other (b := bb) (o := 3) (v := .slice ao' (s2.L.length + 1) c') (by omega)
    have hwsz : wN.heap.size ≤ w'.heap.size := hFar.size
    have G4 : Goes S S' w (w'.setCell ⟨bb, 3, none⟩ (.slice ao' (s2.L.length + 1) c')) := (⟨F3.drew, fun k hk => .inl hk⟩ : Goes S S w wN.drew).trans HG4
    clear OOW OO OBW HB3 HBA hFar hMis hVO hnb hnN F3 HG4 hg'
    go_cut [] (fun wx => wx = w'.setCell ⟨bb, 3, none⟩ (.slice ao' (s2.L.length + 1) c'))
    case first =>
      clear HB4 OO4 G4 hAPP
      go_region
      all_goals go_wp2_with fail
      all_goals go_meet
      all_goals rfl
    case rest =>
      subst hcut
      clear hAPP hAPP2 hO1 hBS h3D h3A h3W hfW
      generalize w'.setCell ⟨bb, 3, none⟩ (.slice ao' (s2.L.length + 1) c') = W3 at *
      obtain ⟨c0, c1, c2, c3, c4, fz⟩ := HB4.cells
      have HB5 := HB4.bump (s2.begun + 1)
      have HB6 := HB5.1.tick a
      have hne : ¬ bN = bb := by omega
      have n0 : W3.cell? ⟨bN, 0, none⟩ = some (.int .i64 O.id) := OO4.cell rfl
      have G6 : Goes S S' w ((W3.setCell ⟨bb, 4, none⟩ (.int .i64 (s2.begun + 1))).setCell ⟨bb, 1, none⟩ (.int .i64 a)) := G4.trans ⟨(HB5.2.trans HB6.2).mono (by simp; exact HB4.m1), fun k hk => .inl hk⟩
      have HB7 : Bka ((W3.setCell ⟨bb, 4, none⟩ (.int .i64 (s2.begun + 1))).setCell ⟨bb, 1, none⟩ (.int .i64 a)) bb S' (bgL s a) := by
        refine ⟨lb, mb, ao', g', o', c', ?_⟩
        have := HB6.1
        rw [E.out.2.2, ← HO.out, HO2.out]
        rw [← HS2.out] at this ⊢
        exact this
      clear HB4 HB5 HB6 OO4 G4
      go_wp2_with fail
      go_ret2
      exact ⟨by rw [E.out.1, E.out.2.1, HBG.out, HID.out]; rfl, S', HB7, G6⟩
end Go.Proofs.Ytpaalpnoppblaaa
