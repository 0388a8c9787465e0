/-
  BooksSums: by any script, each interval has just the sums of what was sent while it was the last one, and of what was acked and lost of that. No conditions.
  BooksSums's walk. No conditions.
  The tally's step, whatever it is; a row of accounts, its first ones left behind. No conditions but those of books and the tally.
  The tally's step: all packets whose time is over are lost. No conditions but those of books and the tally.
  The tally's step: an interval is taken. No conditions but those of books and the tally.
  The tally's step: a packet is lost. No conditions but those of books and the tally.
  The tally's step: a packet is acked. No conditions but those of books and the tally.
  The tally's step: a packet is sent. No conditions but those of books and the tally.
  The tally's step: an interval begins. No conditions but those of books and the tally.
-/
import Derived.Test.YtpaalpnoppblaaaMT
import Derived.Test.YtpaalpnoppblaaaZ12
import Derived.Test.YtpaalpnoppblaaaMW0
import Derived.Test.YtpaalpnoppblaaaV21
import Derived.Deep.RegionWith
import Derived.LoopIn
import Derived.Test.YtpaalpnoppblaaaRows
import Derived.WalkKit
import Derived.ProofKit
import Derived.OpenShut
import Derived.ChangeOld
import Derived.Below
import Derived.Lib.SmallJoins
/-! Z32 -/
namespace Go.Proofs.Ytpaalpnoppblaaa
open Go.RowKit Go.Maps
set_option linter.unusedVariables false
set_option maxRecDepth 8000
attribute [local go_sem ↓] ldM_shut ldP_shut
set_option maxHeartbeats 4000000 in
theorem step0_any (bb tb : Nat) (S T : List Nat) (first : Int) (s : Bk) (t : Ty) (zs za zq : Int) (s0 : -9223372036854775808 ≤ zs) (s1 : zs ≤ 9223372036854775807) (a0 : -9223372036854775808 ≤ za) (a1 : za ≤ 9223372036854775807) (q0 : 0 ≤ zq) (q1 : zq ≤ 18446744073709551615) (f0 : 0 ≤ first) (f1 : first ≤ 18446744073709551615)
    (hb : s.begun ≤ 900) (hP : t.P.length ≤ 900) (w : World) (h : Pair w bb tb S T first s t) :
    Calls Try.prog 14 #[.pointer (some ⟨tb, 0, none⟩), .pointer (some ⟨bb, 0, none⟩), .agg #[.int .i64 0, .int .i64 zs, .int .i64 za, .int .u64 zq], .int .u64 first] w fun e w' => e = .returned (.bool true) ∧ ∃ S1 T1 s1 t1, Step2 w w' bb tb S T S1 T1 first s s1 t t1 := by
  have hfit := h.f
  have hal := h.m.al
  have hlow : ∀ k ∈ S ++ T, k < w.heap.size := fun k hk => by
    rcases List.mem_append.1 hk with h1 | h1
    · exact h.b.low k h1
    · exact h.y.low k h1
  have O := Ob.fresh w #[.int .i64 0, .int .i64 zs, .int .i64 za, .int .u64 zq] 34
  have hB0 : Below w.heap.size w (w.alloc (.cells #[.int .i64 0, .int .i64 zs, .int .i64 za, .int .u64 zq] 34)) := (Below.refl _ w).alloc (Nat.le_refl _) _
  have hA := h.below hB0
  have hgS : w.heap.size ∉ S := fun hm => by have := hlow _ (List.mem_append_left _ hm); omega
  have hgT : w.heap.size ∉ T := fun hm => by have := hlow _ (List.mem_append_right _ hm); omega
  have hl : t.all.length ≤ 1000 := by omega
  have hms := h.m
  clear h
  go_enter Try.func14, Try.ntmps14
  go_wp2_with fail
  generalize w.alloc (.cells #[.int .i64 0, .int .i64 zs, .int .i64 za, .int .u64 zq] 34) = W1 at *
  obtain ⟨g, hg⟩ : ∃ g, w.heap.size = g := ⟨_, rfl⟩
  rw [hg] at O hgS hgT ⊢
  clear hg
  refine (Begin_any bb S s hfit za a0 a1 (by omega) _ hA.b).mono ?_
  rintro e w2 ⟨rfl, S2, HB2, G2⟩
  have O2 := O.far G2.far hgS
  have d2 : w2.cell? ⟨g, 2, none⟩ = some (.int .i64 za) := O2.cell rfl
  have h2 := hA.books G2
  have hf2 := bg_fit hfit za
  have hkp := (bg_kept s za).1.b
  by_cases hE : bgE s za = 0
  · have hm2 := hms.began hfit hE
    have hv : bgV s za = (t.all.length : Int) := by unfold bgV; rw [if_pos hE]; exact hal.symm
    rw [hE, hv]
    obtain ⟨ao, gg, o, c, aF, gF, cF, aA, gA, cA, aZ, gZ, cZ, HT⟩ := h2.1
    have T3 := tbegan_any tb ao gg o c aF gF cF aA gA cA aZ gZ cZ T t za hl w2 HT
    clear O O2 hv HT hE hal
    go_wp2_with fail
    refine T3.mono ?_
    rintro e w3 ⟨rfl, T1, HT3, K3⟩
    have R := (hA.two HB2 G2 HT3 K3 hf2 hm2 hkp (Nat.le_succ _)).head hB0 hlow
    clear hA HB2 G2 HT3 K3 hf2 hm2 hkp h2 d2
    go_wp2_with fail
    go_ret
    exact ⟨rfl, _, _, _, _, R⟩
  · have hs : bgL s za = s := by unfold bgL; rw [if_neg hE]
    obtain ⟨E, hEE⟩ : ∃ E, bgE s za = E := ⟨_, rfl⟩
    rw [hEE] at hE ⊢
    have R := (hA.one HB2 G2 hf2 (by rw [hs]; exact hms) hkp).head hB0 hlow
    clear hEE O O2 hA HB2 G2 h2 hf2 hkp hs
    go_wp2_with fail
    go_ret
    exact ⟨rfl, _, _, _, _, R⟩
end Go.Proofs.Ytpaalpnoppblaaa

/-! Z33 -/
namespace Go.Proofs.Ytpaalpnoppblaaa
open Go.RowKit Go.Maps
set_option linter.unusedVariables false
set_option maxRecDepth 8000
attribute [local go_sem ↓] ldM_shut ldP_shut
set_option maxHeartbeats 4000000 in
theorem step1_any (bb tb : Nat) (S T : List Nat) (first : Int) (s : Bk) (t : Ty) (zs za zq : Int) (s0 : -9223372036854775808 ≤ zs) (s1 : zs ≤ 9223372036854775807) (a0 : -9223372036854775808 ≤ za) (a1 : za ≤ 9223372036854775807) (q0 : 0 ≤ zq) (q1 : zq ≤ 18446744073709551615) (f0 : 0 ≤ first) (f1 : first ≤ 18446744073709551615)
    (hb : s.begun ≤ 900) (hP : t.P.length ≤ 900) (w : World) (h : Pair w bb tb S T first s t) :
    Calls Try.prog 14 #[.pointer (some ⟨tb, 0, none⟩), .pointer (some ⟨bb, 0, none⟩), .agg #[.int .i64 1, .int .i64 zs, .int .i64 za, .int .u64 zq], .int .u64 first] w fun e w' => e = .returned (.bool true) ∧ ∃ S1 T1 s1 t1, Step2 w w' bb tb S T S1 T1 first s s1 t t1 := by
  have hfit := h.f
  have hal := h.m.al
  have hlow : ∀ k ∈ S ++ T, k < w.heap.size := fun k hk => by
    rcases List.mem_append.1 hk with h1 | h1
    · exact h.b.low k h1
    · exact h.y.low k h1
  have O := Ob.fresh w #[.int .i64 1, .int .i64 zs, .int .i64 za, .int .u64 zq] 34
  have hB0 : Below w.heap.size w (w.alloc (.cells #[.int .i64 1, .int .i64 zs, .int .i64 za, .int .u64 zq] 34)) := (Below.refl _ w).alloc (Nat.le_refl _) _
  have hA := h.below hB0
  have hgS : w.heap.size ∉ S := fun hm => by have := hlow _ (List.mem_append_left _ hm); omega
  have hgT : w.heap.size ∉ T := fun hm => by have := hlow _ (List.mem_append_right _ hm); omega
  have hl : t.all.length ≤ 1000 := by omega
  have hms := h.m
  clear h
  go_enter Try.func14, Try.ntmps14
  go_wp2_with fail
  generalize w.alloc (.cells #[.int .i64 1, .int .i64 zs, .int .i64 za, .int .u64 zq] 34) = W1 at *
  obtain ⟨g, hg⟩ : ∃ g, w.heap.size = g := ⟨_, rfl⟩
  rw [hg] at O hgS hgT ⊢
  clear hg
  refine (Send_any bb S s hfit zs za s0 s1 a0 a1 _ hA.b).mono ?_
  rintro e w2 ⟨rfl, HB2, F2⟩
  have G2 := F2.goes
  have O2 := O.far F2 hgS
  have d1 : w2.cell? ⟨g, 1, none⟩ = some (.int .i64 zs) := O2.cell rfl
  have d2 : w2.cell? ⟨g, 2, none⟩ = some (.int .i64 za) := O2.cell rfl
  have h2 := hA.books G2
  have hf2 := sd_fit hfit zs za
  have hkp := (sd_kept s zs za).1.b
  by_cases hE : sdE s zs za = 0
  · obtain ⟨hm2, hn, _⟩ := hms.sent hfit hE
    have hnx := hms.nx
    have hv : IntKind.u64.wrap (sdV s zs za - first) = (t.P.length : Int) := by
      unfold sdV; rw [if_pos hE, hnx]; unfold IntKind.wrap; simp [IntKind.bits, IntKind.signed]; omega
    rw [hE]
    obtain ⟨X, hX⟩ : ∃ X, sdV s zs za = X := ⟨_, rfl⟩
    rw [hX] at hv ⊢
    have T3 := tsent_any tb T t first zs za hn hl (by omega) w2 h2.1
    have hPl : (sdT first t zs za).P.length ≤ t.P.length + 1 := by simp [sdT]
    clear hX O O2 hE hn hnx
    go_wp2_with fail
    refine T3.mono ?_
    rintro e w3 ⟨rfl, T1, HT3, K3⟩
    have R := (hA.two HB2 G2 HT3 K3 hf2 hm2 hkp hPl).head hB0 hlow
    clear hA HB2 G2 HT3 K3 hf2 hm2 hkp h2 d1 d2 hv hPl
    go_wp2_with fail
    go_ret
    exact ⟨rfl, _, _, _, _, R⟩
  · have hs : sdL s zs za = s := by unfold sdL; rw [if_neg hE]
    obtain ⟨E, hEE⟩ : ∃ E, sdE s zs za = E := ⟨_, rfl⟩
    rw [hEE] at hE ⊢
    have R := (hA.one HB2 G2 hf2 (by rw [hs]; exact hms) hkp).head hB0 hlow
    clear hEE O O2 hA HB2 G2 h2 hf2 hkp hs
    go_wp2_with fail
    go_ret
    exact ⟨rfl, _, _, _, _, R⟩
end Go.Proofs.Ytpaalpnoppblaaa

/-! Z34 -/
namespace Go.Proofs.Ytpaalpnoppblaaa
open Go.RowKit Go.Maps
set_option linter.unusedVariables false
set_option maxRecDepth 8000
attribute [local go_sem ↓] ldM_shut ldP_shut
set_option maxHeartbeats 4000000 in
theorem step2_any (bb tb : Nat) (S T : List Nat) (first : Int) (s : Bk) (t : Ty) (zs za zq : Int) (s0 : -9223372036854775808 ≤ zs) (s1 : zs ≤ 9223372036854775807) (a0 : -9223372036854775808 ≤ za) (a1 : za ≤ 9223372036854775807) (q0 : 0 ≤ zq) (q1 : zq ≤ 18446744073709551615) (f0 : 0 ≤ first) (f1 : first ≤ 18446744073709551615)
    (hb : s.begun ≤ 900) (hP : t.P.length ≤ 900) (w : World) (h : Pair w bb tb S T first s t) :
    Calls Try.prog 14 #[.pointer (some ⟨tb, 0, none⟩), .pointer (some ⟨bb, 0, none⟩), .agg #[.int .i64 2, .int .i64 zs, .int .i64 za, .int .u64 zq], .int .u64 first] w fun e w' => e = .returned (.bool true) ∧ ∃ S1 T1 s1 t1, Step2 w w' bb tb S T S1 T1 first s s1 t t1 := by
  have hfit := h.f
  have hal := h.m.al
  have hlow : ∀ k ∈ S ++ T, k < w.heap.size := fun k hk => by
    rcases List.mem_append.1 hk with h1 | h1
    · exact h.b.low k h1
    · exact h.y.low k h1
  have O := Ob.fresh w #[.int .i64 2, .int .i64 zs, .int .i64 za, .int .u64 zq] 34
  have hB0 : Below w.heap.size w (w.alloc (.cells #[.int .i64 2, .int .i64 zs, .int .i64 za, .int .u64 zq] 34)) := (Below.refl _ w).alloc (Nat.le_refl _) _
  have hA := h.below hB0
  have hgS : w.heap.size ∉ S := fun hm => by have := hlow _ (List.mem_append_left _ hm); omega
  have hgT : w.heap.size ∉ T := fun hm => by have := hlow _ (List.mem_append_right _ hm); omega
  have hl : t.all.length ≤ 1000 := by omega
  have hms := h.m
  clear h
  go_enter Try.func14, Try.ntmps14
  go_wp2_with fail
  generalize w.alloc (.cells #[.int .i64 2, .int .i64 zs, .int .i64 za, .int .u64 zq] 34) = W1 at *
  obtain ⟨g, hg⟩ : ∃ g, w.heap.size = g := ⟨_, rfl⟩
  rw [hg] at O hgS hgT ⊢
  clear hg
  refine (Ack_any bb S s hfit zq za q0 q1 a0 a1 _ hA.b).mono ?_
  rintro e w2 ⟨rfl, HB2, F2⟩
  have G2 := F2.goes
  have O2 := O.far F2 hgS
  have h2 := hA.books G2
  have hf2 := st_fit hfit true zq za
  have hkp := (st_kept true s zq za).1.b
  have hgl : g < w2.heap.size := O2.lt
  by_cases hE : stE s zq za = 0
  · have hm2 := hms.ended hfit true hE
    obtain ⟨ha, ht⟩ := st_not hE
    obtain ⟨hmem, hseq, _, _⟩ := tk_is hfit.ok ht
    obtain ⟨j, e1, e2, e3, e4, _, e6⟩ := hms.noted hfit hmem
    have htb := hfit.ok.tb _ hmem
    have hlast := hfit.ok.l1
    have hn0 := hfit.n0
    have hst : stP s zq za = tkp s.l zq := by unfold stP; rw [if_pos hE]
    rw [hE, hst]
    generalize tkp s.l zq = p at *
    obtain ⟨q, mi, z, x⟩ := p
    obtain ⟨i, rfl⟩ : ∃ i : Nat, mi = i := ⟨mi.toNat, (Int.toNat_of_nonneg e4).symm⟩
    simp only [Int.toNat_natCast] at *
    subst hseq
    have hv : IntKind.u64.wrap (q - first) = (j : Int) := by rw [e1]; unfold IntKind.wrap; simp [IntKind.bits, IntKind.signed]; omega
    obtain ⟨ao, gg, o, c, aF, gF, cF, aA, gA, cA, aZ, gZ, cZ, HT⟩ := h2.1
    have hBP : Below w2.heap.size w2 (w2.alloc (.cells #[.int .u64 q, .int .i64 i, .int .i64 z, .int .i64 x] 57)) := (Below.refl _ w2).alloc (Nat.le_refl _) _
    have PB := Ob.fresh w2 #[.int .u64 q, .int .i64 i, .int .i64 z, .int .i64 x] 57
    have hmm : t.all[i]? = some (t.all[i]'e6) := List.getElem?_eq_getElem e6
    have T3 := tacked_any tb ao gg o c aF gF cF aA gA cA aZ gZ cZ T t q z x j i (t.all[i]'e6) e3 hmm hl (by omega) za (by omega) ha.2 htb.1 (by omega) _ (HT.below hBP)
    have eT : enT true t ⟨q, i, z, x⟩ za = { t with all := t.all.set i (ackV (t.all[i]'e6) z x za) } := by
      unfold enT Ty.turn
      simp only [Int.toNat_natCast]
      rw [acc_at t e6]; rfl
    rw [eT] at hm2
    have hLP : (ldP (.pointer (some ⟨w2.heap.size, 0, none⟩))).run Try.prog (w2.alloc (.cells #[.int .u64 q, .int .i64 i, .int .i64 z, .int .i64 x] 57)) = .ok (.agg #[.int .u64 q, .int .i64 i, .int .i64 z, .int .i64 x]) (w2.alloc (.cells #[.int .u64 q, .int .i64 i, .int .i64 z, .int .i64 x] 57)) := ldP_run (p := ⟨q, i, z, x⟩) PB
    have OA := O2.far (Far.of_below hBP) (by simp)
    have d3 : (w2.alloc (.cells #[.int .u64 q, .int .i64 i, .int .i64 z, .int .i64 x] 57)).cell? ⟨g, 3, none⟩ = some (.int .u64 q) := OA.cell rfl
    have d3' : w2.cell? ⟨g, 3, none⟩ = some (.int .u64 q) := O2.cell rfl
    have d2 : (w2.alloc (.cells #[.int .u64 q, .int .i64 i, .int .i64 z, .int .i64 x] 57)).cell? ⟨g, 2, none⟩ = some (.int .i64 za) := OA.cell rfl
    have d2' : w2.cell? ⟨g, 2, none⟩ = some (.int .i64 za) := O2.cell rfl
    have HE1 : Hid (q = first + j) := e1
    clear O OA O2 hE hst e1 e2 e3 e4 ha ht hmem htb hmm eT PB
    go_wp2_with fail
    refine T3.mono ?_
    rintro e w3 ⟨rfl, HT3, K3⟩
    have R := (hA.two (HB2.below hBP) ⟨F2.below hBP, fun k hk => .inl hk⟩ ⟨_, _, _, _, _, _, _, _, _, _, _, _, _, HT3⟩ K3.goes hf2 hm2 hkp (Nat.le_succ _)).head hB0 hlow
    clear hA HB2 G2 F2 HT3 K3 hf2 hm2 hkp h2 HT hBP hLP d2 d2' d3 d3' hv hgl
    go_wp2_with fail
    go_ret
    exact ⟨rfl, _, _, _, _, R⟩
  · have hs : stL true s zq za = s := by unfold stL; rw [if_neg hE]
    obtain ⟨E, hEE⟩ : ∃ E, stE s zq za = E := ⟨_, rfl⟩
    rw [hEE] at hE ⊢
    have R := (hA.one HB2 G2 hf2 (by rw [hs]; exact hms) hkp).head hB0 hlow
    obtain ⟨P, hPP⟩ : ∃ P, stP s zq za = P := ⟨_, rfl⟩
    rw [hPP]
    have R2 := R.tail (w2 := w2.alloc (.cells #[.int .u64 P.seq, .int .i64 P.mi, .int .i64 P.size, .int .i64 P.sent] 57)) ((Below.refl _ w2).alloc (Nat.le_refl _) _)
    clear hPP hEE O O2 hA HB2 G2 F2 R h2 hf2 hkp hs
    go_wp2_with fail
    go_ret
    exact ⟨rfl, _, _, _, _, R2⟩
end Go.Proofs.Ytpaalpnoppblaaa

/-! Z35 -/
namespace Go.Proofs.Ytpaalpnoppblaaa
open Go.RowKit Go.Maps
set_option linter.unusedVariables false
set_option maxRecDepth 8000
attribute [local go_sem ↓] ldM_shut ldP_shut
set_option maxHeartbeats 4000000 in
theorem step3_any (bb tb : Nat) (S T : List Nat) (first : Int) (s : Bk) (t : Ty) (zs za zq : Int) (s0 : -9223372036854775808 ≤ zs) (s1 : zs ≤ 9223372036854775807) (a0 : -9223372036854775808 ≤ za) (a1 : za ≤ 9223372036854775807) (q0 : 0 ≤ zq) (q1 : zq ≤ 18446744073709551615) (f0 : 0 ≤ first) (f1 : first ≤ 18446744073709551615)
    (hb : s.begun ≤ 900) (hP : t.P.length ≤ 900) (w : World) (h : Pair w bb tb S T first s t) :
    Calls Try.prog 14 #[.pointer (some ⟨tb, 0, none⟩), .pointer (some ⟨bb, 0, none⟩), .agg #[.int .i64 3, .int .i64 zs, .int .i64 za, .int .u64 zq], .int .u64 first] w fun e w' => e = .returned (.bool true) ∧ ∃ S1 T1 s1 t1, Step2 w w' bb tb S T S1 T1 first s s1 t t1 := by
  have hfit := h.f
  have hal := h.m.al
  have hlow : ∀ k ∈ S ++ T, k < w.heap.size := fun k hk => by
    rcases List.mem_append.1 hk with h1 | h1
    · exact h.b.low k h1
    · exact h.y.low k h1
  have O := Ob.fresh w #[.int .i64 3, .int .i64 zs, .int .i64 za, .int .u64 zq] 34
  have hB0 : Below w.heap.size w (w.alloc (.cells #[.int .i64 3, .int .i64 zs, .int .i64 za, .int .u64 zq] 34)) := (Below.refl _ w).alloc (Nat.le_refl _) _
  have hA := h.below hB0
  have hgS : w.heap.size ∉ S := fun hm => by have := hlow _ (List.mem_append_left _ hm); omega
  have hgT : w.heap.size ∉ T := fun hm => by have := hlow _ (List.mem_append_right _ hm); omega
  have hl : t.all.length ≤ 1000 := by omega
  have hms := h.m
  clear h
  go_enter Try.func14, Try.ntmps14
  go_wp2_with fail
  generalize w.alloc (.cells #[.int .i64 3, .int .i64 zs, .int .i64 za, .int .u64 zq] 34) = W1 at *
  obtain ⟨g, hg⟩ : ∃ g, w.heap.size = g := ⟨_, rfl⟩
  rw [hg] at O hgS hgT ⊢
  clear hg
  refine (Lose_any bb S s hfit zq za q0 q1 a0 a1 _ hA.b).mono ?_
  rintro e w2 ⟨rfl, HB2, F2⟩
  have G2 := F2.goes
  have O2 := O.far F2 hgS
  have h2 := hA.books G2
  have hf2 := st_fit hfit false zq za
  have hkp := (st_kept false s zq za).1.b
  have hgl : g < w2.heap.size := O2.lt
  by_cases hE : stE s zq za = 0
  · have hm2 := hms.ended hfit false hE
    obtain ⟨ha, ht⟩ := st_not hE
    obtain ⟨hmem, hseq, _, _⟩ := tk_is hfit.ok ht
    obtain ⟨j, e1, e2, e3, e4, _, e6⟩ := hms.noted hfit hmem
    have htb := hfit.ok.tb _ hmem
    have hlast := hfit.ok.l1
    have hn0 := hfit.n0
    have hst : stP s zq za = tkp s.l zq := by unfold stP; rw [if_pos hE]
    rw [hE, hst]
    generalize tkp s.l zq = p at *
    obtain ⟨q, mi, z, x⟩ := p
    obtain ⟨i, rfl⟩ : ∃ i : Nat, mi = i := ⟨mi.toNat, (Int.toNat_of_nonneg e4).symm⟩
    simp only [Int.toNat_natCast] at *
    subst hseq
    have hv : IntKind.u64.wrap (q - first) = (j : Int) := by rw [e1]; unfold IntKind.wrap; simp [IntKind.bits, IntKind.signed]; omega
    obtain ⟨ao, gg, o, c, aF, gF, cF, aA, gA, cA, aZ, gZ, cZ, HT⟩ := h2.1
    have hBP : Below w2.heap.size w2 (w2.alloc (.cells #[.int .u64 q, .int .i64 i, .int .i64 z, .int .i64 x] 57)) := (Below.refl _ w2).alloc (Nat.le_refl _) _
    have PB := Ob.fresh w2 #[.int .u64 q, .int .i64 i, .int .i64 z, .int .i64 x] 57
    have hmm : t.all[i]? = some (t.all[i]'e6) := List.getElem?_eq_getElem e6
    have T3 := tlost_any tb ao gg o c aF gF cF aA gA cA aZ gZ cZ T t q z x j i (t.all[i]'e6) e3 hmm hl (by omega) _ (HT.below hBP)
    have eT : enT false t ⟨q, i, z, x⟩ za = { t with all := t.all.set i (loseV (t.all[i]'e6) z) } := by
      unfold enT Ty.turn
      simp only [Int.toNat_natCast]
      rw [acc_at t e6]; rfl
    rw [eT] at hm2
    have hLP : (ldP (.pointer (some ⟨w2.heap.size, 0, none⟩))).run Try.prog (w2.alloc (.cells #[.int .u64 q, .int .i64 i, .int .i64 z, .int .i64 x] 57)) = .ok (.agg #[.int .u64 q, .int .i64 i, .int .i64 z, .int .i64 x]) (w2.alloc (.cells #[.int .u64 q, .int .i64 i, .int .i64 z, .int .i64 x] 57)) := ldP_run (p := ⟨q, i, z, x⟩) PB
    have OA := O2.far (Far.of_below hBP) (by simp)
    have d3 : (w2.alloc (.cells #[.int .u64 q, .int .i64 i, .int .i64 z, .int .i64 x] 57)).cell? ⟨g, 3, none⟩ = some (.int .u64 q) := OA.cell rfl
    have d3' : w2.cell? ⟨g, 3, none⟩ = some (.int .u64 q) := O2.cell rfl
    have d2 : (w2.alloc (.cells #[.int .u64 q, .int .i64 i, .int .i64 z, .int .i64 x] 57)).cell? ⟨g, 2, none⟩ = some (.int .i64 za) := OA.cell rfl
    have d2' : w2.cell? ⟨g, 2, none⟩ = some (.int .i64 za) := O2.cell rfl
    have HE1 : Hid (q = first + j) := e1
    clear O OA O2 hE hst e1 e2 e3 e4 ha ht hmem htb hmm eT PB
    go_wp2_with fail
    refine T3.mono ?_
    rintro e w3 ⟨rfl, HT3, K3⟩
    have R := (hA.two (HB2.below hBP) ⟨F2.below hBP, fun k hk => .inl hk⟩ ⟨_, _, _, _, _, _, _, _, _, _, _, _, _, HT3⟩ K3.goes hf2 hm2 hkp (Nat.le_succ _)).head hB0 hlow
    clear hA HB2 G2 F2 HT3 K3 hf2 hm2 hkp h2 HT hBP hLP d2 d2' d3 d3' hv hgl
    go_wp2_with fail
    go_ret
    exact ⟨rfl, _, _, _, _, R⟩
  · have hs : stL false s zq za = s := by unfold stL; rw [if_neg hE]
    obtain ⟨E, hEE⟩ : ∃ E, stE s zq za = E := ⟨_, rfl⟩
    rw [hEE] at hE ⊢
    have R := (hA.one HB2 G2 hf2 (by rw [hs]; exact hms) hkp).head hB0 hlow
    obtain ⟨P, hPP⟩ : ∃ P, stP s zq za = P := ⟨_, rfl⟩
    rw [hPP]
    have R2 := R.tail (w2 := w2.alloc (.cells #[.int .u64 P.seq, .int .i64 P.mi, .int .i64 P.size, .int .i64 P.sent] 57)) ((Below.refl _ w2).alloc (Nat.le_refl _) _)
    clear hPP hEE O O2 hA HB2 G2 F2 R h2 hf2 hkp hs
    go_wp2_with fail
    go_ret
    exact ⟨rfl, _, _, _, _, R2⟩
end Go.Proofs.Ytpaalpnoppblaaa

/-! Z36 -/
namespace Go.Proofs.Ytpaalpnoppblaaa
open Go.RowKit Go.Maps
set_option linter.unusedVariables false
set_option maxRecDepth 8000
attribute [local go_sem ↓] ldM_shut ldP_shut
set_option maxHeartbeats 4000000 in
theorem step5_any (bb tb : Nat) (S T : List Nat) (first : Int) (s : Bk) (t : Ty) (zk zs za zq : Int) (k0 : ¬ zk = 0) (k1 : ¬ zk = 1) (k2 : ¬ zk = 2) (k3 : ¬ zk = 3) (k4 : ¬ zk = 4) (s0 : -9223372036854775808 ≤ zs) (s1 : zs ≤ 9223372036854775807) (a0 : -9223372036854775808 ≤ za) (a1 : za ≤ 9223372036854775807) (q0 : 0 ≤ zq) (q1 : zq ≤ 18446744073709551615) (f0 : 0 ≤ first) (f1 : first ≤ 18446744073709551615)
    (hb : s.begun ≤ 900) (hP : t.P.length ≤ 900) (w : World) (h : Pair w bb tb S T first s t) :
    Calls Try.prog 14 #[.pointer (some ⟨tb, 0, none⟩), .pointer (some ⟨bb, 0, none⟩), .agg #[.int .i64 zk, .int .i64 zs, .int .i64 za, .int .u64 zq], .int .u64 first] w fun e w' => e = .returned (.bool true) ∧ ∃ S1 T1 s1 t1, Step2 w w' bb tb S T S1 T1 first s s1 t t1 := by
  have hfit := h.f
  have hal := h.m.al
  have hlow : ∀ k ∈ S ++ T, k < w.heap.size := fun k hk => by
    rcases List.mem_append.1 hk with h1 | h1
    · exact h.b.low k h1
    · exact h.y.low k h1
  have O := Ob.fresh w #[.int .i64 zk, .int .i64 zs, .int .i64 za, .int .u64 zq] 34
  have hB0 : Below w.heap.size w (w.alloc (.cells #[.int .i64 zk, .int .i64 zs, .int .i64 za, .int .u64 zq] 34)) := (Below.refl _ w).alloc (Nat.le_refl _) _
  have hA := h.below hB0
  have hgS : w.heap.size ∉ S := fun hm => by have := hlow _ (List.mem_append_left _ hm); omega
  have hgT : w.heap.size ∉ T := fun hm => by have := hlow _ (List.mem_append_right _ hm); omega
  have hl : t.all.length ≤ 1000 := by omega
  have hms := h.m
  clear h
  go_enter Try.func14, Try.ntmps14
  go_wp2_with fail
  generalize w.alloc (.cells #[.int .i64 zk, .int .i64 zs, .int .i64 za, .int .u64 zq] 34) = W1 at *
  obtain ⟨g, hg⟩ : ∃ g, w.heap.size = g := ⟨_, rfl⟩
  rw [hg] at O hgS hgT ⊢
  clear hg
  refine (Take_any bb S s hfit _ hA.b).mono ?_
  rintro e w2 ⟨rfl, HB2, F2⟩
  have G2 := F2.goes
  have h2 := hA.books G2
  have hf2 := tk_fit hfit
  have hkp := (tk_kept s).b
  cases hB : tkB s
  · have hs : tkL s = s := by unfold tkL; rw [hB]; rfl
    obtain ⟨m, hm⟩ : ∃ m, tkM s = m := ⟨_, rfl⟩
    rw [hm]
    have hBP : Below w2.heap.size w2 (w2.alloc (.cells #[.int .i64 m.id, .int .i64 m.fr, .int .i64 m.to, .int .i64 m.se, .int .i64 m.ac, .int .i64 m.lo, .int .i64 m.pa, .int .i64 m.hi, .int .i64 m.dr, .int .i64 m.n, .int .i64 m.st, .int .i64 m.sr, .int .i64 m.tt, .int .i64 m.tr, .int .i64 m.rr] 63)) := (Below.refl _ w2).alloc (Nat.le_refl _) _
    have hLM : (ldM (.pointer (some ⟨w2.heap.size, 0, none⟩))).run Try.prog (w2.alloc (.cells #[.int .i64 m.id, .int .i64 m.fr, .int .i64 m.to, .int .i64 m.se, .int .i64 m.ac, .int .i64 m.lo, .int .i64 m.pa, .int .i64 m.hi, .int .i64 m.dr, .int .i64 m.n, .int .i64 m.st, .int .i64 m.sr, .int .i64 m.tt, .int .i64 m.tr, .int .i64 m.rr] 63)) = .ok (.agg #[.int .i64 m.id, .int .i64 m.fr, .int .i64 m.to, .int .i64 m.se, .int .i64 m.ac, .int .i64 m.lo, .int .i64 m.pa, .int .i64 m.hi, .int .i64 m.dr, .int .i64 m.n, .int .i64 m.st, .int .i64 m.sr, .int .i64 m.tt, .int .i64 m.tr, .int .i64 m.rr]) (w2.alloc (.cells #[.int .i64 m.id, .int .i64 m.fr, .int .i64 m.to, .int .i64 m.se, .int .i64 m.ac, .int .i64 m.lo, .int .i64 m.pa, .int .i64 m.hi, .int .i64 m.dr, .int .i64 m.n, .int .i64 m.st, .int .i64 m.sr, .int .i64 m.tt, .int .i64 m.tr, .int .i64 m.rr] 63)) := ldM_run (Ob.fresh w2 #[.int .i64 m.id, .int .i64 m.fr, .int .i64 m.to, .int .i64 m.se, .int .i64 m.ac, .int .i64 m.lo, .int .i64 m.pa, .int .i64 m.hi, .int .i64 m.dr, .int .i64 m.n, .int .i64 m.st, .int .i64 m.sr, .int .i64 m.tt, .int .i64 m.tr, .int .i64 m.rr] 63).c
    have R := (hA.one HB2 G2 hf2 (by rw [hs]; exact hms) hkp).head hB0 hlow
    have T3 := took_no tb m (w2.alloc (.cells #[.int .i64 m.id, .int .i64 m.fr, .int .i64 m.to, .int .i64 m.se, .int .i64 m.ac, .int .i64 m.lo, .int .i64 m.pa, .int .i64 m.hi, .int .i64 m.dr, .int .i64 m.n, .int .i64 m.st, .int .i64 m.sr, .int .i64 m.tt, .int .i64 m.tr, .int .i64 m.rr] 63))
    clear hm O hA HB2 G2 F2 h2 hf2 hkp hs hB
    go_wp2_with fail
    refine T3.mono ?_
    rintro e w3 ⟨rfl, K3⟩
    have R2 := (R.tail hBP).tail K3
    clear R K3 hLM hBP T3
    go_wp2_with fail
    go_ret
    exact ⟨rfl, _, _, _, _, R2⟩
  · obtain ⟨hlt, hme, hm2⟩ := hms.took hB
    rw [hme]
    obtain ⟨ao, gg, o, c, aF, gF, cF, aA, gA, cA, aZ, gZ, cZ, HT⟩ := h2.1
    obtain ⟨m, hm⟩ : ∃ m, t.acc t.taken = m := ⟨_, rfl⟩
    have hBP : Below w2.heap.size w2 (w2.alloc (.cells #[.int .i64 m.id, .int .i64 m.fr, .int .i64 m.to, .int .i64 m.se, .int .i64 m.ac, .int .i64 m.lo, .int .i64 m.pa, .int .i64 m.hi, .int .i64 m.dr, .int .i64 m.n, .int .i64 m.st, .int .i64 m.sr, .int .i64 m.tt, .int .i64 m.tr, .int .i64 m.rr] 63)) := (Below.refl _ w2).alloc (Nat.le_refl _) _
    have T3 := took_yes tb ao gg o c aF gF cF aA gA cA aZ gZ cZ T t _ (HT.below hBP) hlt
    rw [hm] at T3 ⊢
    have hLM : (ldM (.pointer (some ⟨w2.heap.size, 0, none⟩))).run Try.prog (w2.alloc (.cells #[.int .i64 m.id, .int .i64 m.fr, .int .i64 m.to, .int .i64 m.se, .int .i64 m.ac, .int .i64 m.lo, .int .i64 m.pa, .int .i64 m.hi, .int .i64 m.dr, .int .i64 m.n, .int .i64 m.st, .int .i64 m.sr, .int .i64 m.tt, .int .i64 m.tr, .int .i64 m.rr] 63)) = .ok (.agg #[.int .i64 m.id, .int .i64 m.fr, .int .i64 m.to, .int .i64 m.se, .int .i64 m.ac, .int .i64 m.lo, .int .i64 m.pa, .int .i64 m.hi, .int .i64 m.dr, .int .i64 m.n, .int .i64 m.st, .int .i64 m.sr, .int .i64 m.tt, .int .i64 m.tr, .int .i64 m.rr]) (w2.alloc (.cells #[.int .i64 m.id, .int .i64 m.fr, .int .i64 m.to, .int .i64 m.se, .int .i64 m.ac, .int .i64 m.lo, .int .i64 m.pa, .int .i64 m.hi, .int .i64 m.dr, .int .i64 m.n, .int .i64 m.st, .int .i64 m.sr, .int .i64 m.tt, .int .i64 m.tr, .int .i64 m.rr] 63)) := ldM_run (Ob.fresh w2 #[.int .i64 m.id, .int .i64 m.fr, .int .i64 m.to, .int .i64 m.se, .int .i64 m.ac, .int .i64 m.lo, .int .i64 m.pa, .int .i64 m.hi, .int .i64 m.dr, .int .i64 m.n, .int .i64 m.st, .int .i64 m.sr, .int .i64 m.tt, .int .i64 m.tr, .int .i64 m.rr] 63).c
    clear hm O hB hlt hme
    go_wp2_with fail
    refine T3.mono ?_
    rintro e w3 ⟨rfl, HT3, K3⟩
    have R := (hA.two (HB2.below hBP) ⟨F2.below hBP, fun k hk => .inl hk⟩ ⟨_, _, _, _, _, _, _, _, _, _, _, _, _, HT3⟩ K3.goes hf2 hm2 hkp (Nat.le_succ _)).head hB0 hlow
    clear hA HB2 G2 F2 HT3 K3 hf2 hm2 hkp h2 HT hBP hLM T3
    go_wp2_with fail
    go_ret
    exact ⟨rfl, _, _, _, _, R⟩
end Go.Proofs.Ytpaalpnoppblaaa

/-! Z37 -/
namespace Go.Proofs.Ytpaalpnoppblaaa
open Go.RowKit Go.Maps
set_option linter.unusedVariables false
set_option maxRecDepth 8000
attribute [local go_sem ↓] ldM_shut ldP_shut
set_option maxHeartbeats 4000000 in
theorem step4_any (bb tb : Nat) (S T : List Nat) (first : Int) (s : Bk) (t : Ty) (zs za zq : Int) (s0 : -9223372036854775808 ≤ zs) (s1 : zs ≤ 9223372036854775807) (a0 : -9223372036854775808 ≤ za) (a1 : za ≤ 9223372036854775807) (q0 : 0 ≤ zq) (q1 : zq ≤ 18446744073709551615) (f0 : 0 ≤ first) (f1 : first ≤ 18446744073709551615)
    (hb : s.begun ≤ 900) (hP : t.P.length ≤ 900) (w : World) (h : Pair w bb tb S T first s t) :
    Calls Try.prog 14 #[.pointer (some ⟨tb, 0, none⟩), .pointer (some ⟨bb, 0, none⟩), .agg #[.int .i64 4, .int .i64 zs, .int .i64 za, .int .u64 zq], .int .u64 first] w fun e w' => e = .returned (.bool true) ∧ ∃ S1 T1 s1 t1, Step2 w w' bb tb S T S1 T1 first s s1 t t1 := by
  have hfit := h.f
  have hal := h.m.al
  have hlow : ∀ k ∈ S ++ T, k < w.heap.size := fun k hk => by
    rcases List.mem_append.1 hk with h1 | h1
    · exact h.b.low k h1
    · exact h.y.low k h1
  have O := Ob.fresh w #[.int .i64 4, .int .i64 zs, .int .i64 za, .int .u64 zq] 34
  have hB0 : Below w.heap.size w (w.alloc (.cells #[.int .i64 4, .int .i64 zs, .int .i64 za, .int .u64 zq] 34)) := (Below.refl _ w).alloc (Nat.le_refl _) _
  have hA := h.below hB0
  have hgS : w.heap.size ∉ S := fun hm => by have := hlow _ (List.mem_append_left _ hm); omega
  have hgT : w.heap.size ∉ T := fun hm => by have := hlow _ (List.mem_append_right _ hm); omega
  have hl : t.all.length ≤ 1000 := by omega
  have hms := h.m
  clear h
  go_enter Try.func14, Try.ntmps14
  go_wp2_with fail
  generalize w.alloc (.cells #[.int .i64 4, .int .i64 zs, .int .i64 za, .int .u64 zq] 34) = W1 at *
  obtain ⟨g, hg⟩ : ∃ g, w.heap.size = g := ⟨_, rfl⟩
  rw [hg] at O hgS hgT ⊢
  clear hg
  refine (Expire_any bb S s hfit za a0 a1 _ hA.b).mono ?_
  rintro e w2 ⟨v, rfl, own2, ⟨oo, HB2, hf2⟩, F2⟩
  have h2 := hA.books F2.goes
  have hkp := (ex_kept s za oo).b
  obtain ⟨e1, e2, e3, e4, e5⟩ := ex_parts hfit za oo
  obtain ⟨ao, c, rfl, hPk⟩ := Pks.own own2
  have hblk : ∀ b o, ao = some ⟨b, o, none⟩ → b ∉ T := fun b o hb hT => by
    have := (own_lt own2 (g := b) (by rw [hb]; rfl)).2
    have := hA.y.low b hT
    omega
  generalize exP s za = G at *
  generalize exL s za oo = s2 at *
  generalize exE s za = EE at *
  obtain ⟨n, hn⟩ : ∃ n, G.length = n := ⟨_, rfl⟩
  rw [hn] at hPk ⊢
  have HN : Hid (G.length = n) := hn
  have hcap := hPk.cap; have hmax := hPk.max
  have hmx : maxLen = 9223372036854775807 := rfl
  have E1 : Hid (s.l.L = G ++ s2.l.L) := e1
  have E2 : Hid (s2.L = lostAll s.L G za) := e2
  have E3 : Hid (s2.begun = s.begun ∧ s2.l.next = s.l.next) := ⟨e3, e4⟩
  have HAL : Hid _ := hal
  clear hn own2 e1 e2 e3 e4 O hal
  go_wp2_with fail
  go_loopw [19] (fun v19 wr => ∃ (i : Nat) (u : Bk) (v : Ty), i ≤ n ∧ v19 = .int .i64 i ∧ Mid first s t za G s2.l.L i u v ∧ Tya wr tb T v ∧ Pks wr ao n c G ∧ Far T w2 wr) (fun v19 _ => n - (intOf v19).toNat)
  case atStart => exact ⟨0, s, t, Nat.zero_le _, rfl, Mid.zero hfit hms E1.out, h2.1, hPk, Far.refl _ _⟩
  case round =>
    clear hPk
    obtain ⟨i, u, v, hi, rfl, hM, HT, hPk, FT⟩ := hrel
    by_cases hin : (i : Int) < (n : Int)
    · have hig : i < G.length := by rw [HN.out]; omega
      obtain ⟨b, rfl, hbl, hc⟩ := hPk.at' (by omega)
      obtain ⟨c0, c1, c2, c3⟩ := hc i hig
      have hgt := e5 (fun e => by rw [e] at hig; simp at hig)
      obtain ⟨u', hM'⟩ := hM.succ hig hgt.1 hgt.2
      have hmem : G[i] ∈ u.l.L := by rw [hM.l, List.drop_eq_getElem_cons hig]; exact List.mem_append_left _ List.mem_cons_self
      obtain ⟨j, x1, x2, x3, x4, _, x6⟩ := hM.m.noted hM.f hmem
      have hPl : v.P.length ≤ 900 := by rw [hM.P]; exact hP
      have hAl : v.all.length ≤ 1000 := by rw [hM.k]; exact hl
      obtain ⟨p, hp⟩ : ∃ p, G[i] = p := ⟨_, rfl⟩
      rw [hp] at c0 c1 c2 c3 x1 x3 x4 x6 hM'
      clear hmem hc hp
      obtain ⟨q, mi, z, x⟩ := p
      obtain ⟨k, rfl⟩ : ∃ k : Nat, mi = k := ⟨mi.toNat, (Int.toNat_of_nonneg x4).symm⟩
      simp only [Int.toNat_natCast] at x6 x1 x3 c0 c1 c2 c3
      have hv : IntKind.u64.wrap (q - first) = (j : Int) := by rw [x1]; unfold IntKind.wrap; simp [IntKind.bits, IntKind.signed]; omega
      obtain ⟨at', gg, o, cc, aF, gF, cF, aA, gA, cA, aZ, gZ, cZ, HT1⟩ := HT
      have hmm : v.all[k]? = some (v.all[k]'x6) := List.getElem?_eq_getElem x6
      have HTD := HT1.far (Far.refl [] wr).drew (by simp)
      have T3 := tlost_any tb at' gg o cc aF gF cF aA gA cA aZ gZ cZ T v q z x j k (v.all[k]'x6) x3 hmm hAl (by omega) wr.drew HTD
      have eT : enT false v ⟨q, k, z, x⟩ za = { v with all := v.all.set k (loseV (v.all[k]'x6) z) } := by
        unfold enT Ty.turn
        simp only [Int.toNat_natCast]
        rw [acc_at v x6]; rfl
      rw [eT] at hM'
      have hLP : (ldP (.pointer (some ⟨b, i * 4, none⟩))).run Try.prog wr.drew = .ok (.agg #[.int .u64 q, .int .i64 k, .int .i64 z, .int .i64 x]) wr.drew := by
        refine run_loadAt_mid wr.drew b (i * 4) 57 [.int .u64 q, .int .i64 k, .int .i64 z, .int .i64 x] _ (fun j' v' hv' => ?_) Try.underlying57 rfl (by kernel_rfl)
        match j', hv' with
        | 0, hv' => cases hv'; exact c0
        | 1, hv' => cases hv'; exact c1
        | 2, hv' => cases hv'; exact c2
        | 3, hv' => cases hv'; exact c3
      have hbT := hblk b 0 rfl
      have HM' : Hid _ := hM'
      clear x1 x2 x3 x4 hmm eT hM hM' HT1 hgt e5 c1 c2 c3 HTD
      go_upto_region 19 with fail
      go_region_with (first | (go_at_call 35; refine T3.mono ?_; rintro e w3 ⟨rfl, HT3, K3⟩))
      all_goals go_wp2_with fail
      all_goals exact ⟨⟨i + 1, u', _, by omega, by simp, HM'.out, ⟨_, _, _, _, _, _, _, _, _, _, _, _, _, HT3⟩, (hPk.far (Far.refl [] wr).drew (by simp)).far K3 (fun b' o' hb' => by cases hb'; exact hbT), (FT.drew).trans K3⟩, by simp only [intOf]; omega⟩
    · have hie : i = n := by omega
      subst hie
      have hm2 : Sums first s2 v := hM.m.same (by rw [E3.out.1, hM.b]) (by rw [E2.out, hM.L, ← HN.out, List.take_length]) (by rw [E3.out.2, hM.x]) (by rw [hM.l, ← HN.out, List.drop_length]; rfl)
      have R := (hA.two HB2 F2.goes HT FT.goes hf2 hm2 hkp (by rw [hM.P]; exact Nat.le_succ _)).head hB0 hlow
      clear hA HB2 F2 HT FT hf2 hm2 hkp hM h2 hPk e5 hblk hfit hms
      go_wp2_with fail
      go_ret
      exact ⟨rfl, _, _, _, _, R⟩
end Go.Proofs.Ytpaalpnoppblaaa

/-! Z38 -/
namespace Go.Proofs.Ytpaalpnoppblaaa
open Go.RowKit Go.Maps
set_option linter.unusedVariables false
set_option maxRecDepth 8000
theorem tstep_any (bb tb : Nat) (S T : List Nat) (first : Int) (s : Bk) (t : Ty) (zk zs za zq : Int) (s0 : -9223372036854775808 ≤ zs) (s1 : zs ≤ 9223372036854775807) (a0 : -9223372036854775808 ≤ za) (a1 : za ≤ 9223372036854775807) (q0 : 0 ≤ zq) (q1 : zq ≤ 18446744073709551615) (f0 : 0 ≤ first) (f1 : first ≤ 18446744073709551615)
    (hb : s.begun ≤ 900) (hP : t.P.length ≤ 900) (w : World) (h : Pair w bb tb S T first s t) :
    Calls Try.prog 14 #[.pointer (some ⟨tb, 0, none⟩), .pointer (some ⟨bb, 0, none⟩), .agg #[.int .i64 zk, .int .i64 zs, .int .i64 za, .int .u64 zq], .int .u64 first] w fun e w' => e = .returned (.bool true) ∧ ∃ S1 T1 s1 t1, Step2 w w' bb tb S T S1 T1 first s s1 t t1 := by
  by_cases k0 : zk = 0
  · subst k0; exact step0_any bb tb S T first s t zs za zq s0 s1 a0 a1 q0 q1 f0 f1 hb hP w h
  by_cases k1 : zk = 1
  · subst k1; exact step1_any bb tb S T first s t zs za zq s0 s1 a0 a1 q0 q1 f0 f1 hb hP w h
  by_cases k2 : zk = 2
  · subst k2; exact step2_any bb tb S T first s t zs za zq s0 s1 a0 a1 q0 q1 f0 f1 hb hP w h
  by_cases k3 : zk = 3
  · subst k3; exact step3_any bb tb S T first s t zs za zq s0 s1 a0 a1 q0 q1 f0 f1 hb hP w h
  by_cases k4 : zk = 4
  · subst k4; exact step4_any bb tb S T first s t zs za zq s0 s1 a0 a1 q0 q1 f0 f1 hb hP w h
  exact step5_any bb tb S T first s t zk zs za zq k0 k1 k2 k3 k4 s0 s1 a0 a1 q0 q1 f0 f1 hb hP w h
/-- The accounts from a place on, left shut. -/
def slM (x l : Value) : Sem Value := Instr.sliceAt 36 x (some l) none none
theorem slM_shut (x l : Value) : Instr.sliceAt 36 x (some l) none none = slM x l := rfl
theorem Mis.drop {w : World} {ao : Option Addr} {g o n c : Nat} {L : List Mi} (h : Mis w ao g o n c L) {k : Nat} (hk : k ≤ n) (bo : Option Addr) (hb : k < c → bo = some ⟨g, o + k * 15, none⟩) : Mis w bo g (o + k * 15) (n - k) (c - k) (L.drop k) := by
  have hlen := h.len; have hcap := h.cap; have hmax := h.max
  refine ⟨by simp; omega, by omega, by omega, fun hc => hb (by omega), fun hc => h.lt (by omega), fun i hi => ?_, fun j hj => ?_⟩
  · have hi' : k + i < L.length := by simp at hi; omega
    have := h.els (k + i) hi'
    rw [show o + (k + i) * 15 = o + k * 15 + i * 15 by omega] at this
    rw [List.getElem_drop]
    exact this
  · have := h.there (k * 15 + j) (by omega)
    rw [← Nat.add_assoc] at this
    exact this
theorem slM_run {w : World} {ao : Option Addr} {g o n c : Nat} {L : List Mi} (h : Mis w ao g o n c L) {k : Nat} (hk : k ≤ n) :
    ∃ bo, (∀ W : World, (slM (.slice ao n c) (.int .i64 k)).run Try.prog W = .ok (.slice bo (n - k) (c - k)) W) ∧ (∀ W : World, Mis W ao g o n c L → Mis W bo g (o + k * 15) (n - k) (c - k) (L.drop k)) := by
  obtain ⟨i0, hi, hz0, hz1, hz2⟩ := info_parts infoM
  have hcap := h.cap
  have hsz : ∀ W : World, (sizeOf 63).run Try.prog W = .ok 15 W := fun W => by simp [sizeOf, typeInfo, hi, hz1]
  refine ⟨if c = k then ao else ao.map (·.add (k * 15)), fun W => ?_, fun W hW => ?_⟩
  · unfold slM
    rw [run_sliceAt_slice W 36 _ _ _ _ Try.underlying36, run_slice_l W 36 ao n c Try.underlying36 .i64 k (by omega) (by omega)]
    show ((sizeOf 63).run Try.prog W).andThen _ = _
    rw [hsz W]
    simp [Result.andThen, sliced]
  · refine hW.drop hk _ (fun hc => ?_)
    rw [if_neg (by omega), hW.addr (by omega)]
    simp only [Option.map_some, Addr.add_lit]
end Go.Proofs.Ytpaalpnoppblaaa

/-! W5 -/
namespace Go.Proofs.Ytpaalpnoppblaaa
open Go.RowKit Go.Maps
set_option linter.unusedVariables false
set_option maxRecDepth 8000
attribute [local go_sem ↓] slM_shut
set_option maxHeartbeats 8000000 in
theorem bsums_walk (room first timeout : Int) (ao : Option Addr) (n c : Nat) (Z : Nat → St) (r0 : -9223372036854775808 ≤ room) (r1 : room ≤ 9223372036854775807) (f0 : 0 ≤ first) (f1 : first ≤ 18446744073709551615) (t0 : -9223372036854775808 ≤ timeout) (t1 : timeout ≤ 9223372036854775807) (w : World) (hz : Steps w ao n c Z) :
    Calls Try.prog 4 #[.int .i64 room, .int .u64 first, .int .i64 timeout, .slice ao n c] w fun e w' => e = .returned (.bool true) ∧ Below w.heap.size w w' := by
  have hcap := hz.cap; have hmax := hz.max
  have hmx : maxLen = 9223372036854775807 := rfl
  go_enter Try.func4, Try.ntmps4
  by_cases hr : room < 1 ∨ 4096 < room
  · go_wp2_with fail
    refine (bnew_arg room first timeout hr _).mono ?_
    rintro e w1 ⟨rfl, B1⟩
    go_wp2_with fail
    refine (booked_any _).mono ?_
    rintro e w2 ⟨rfl, B2⟩
    have B3 := B1.trans (B2.mono B1.size)
    go_wp2_with fail
    go_ret
    exact ⟨rfl, B3⟩
  by_cases ht : timeout < 1 ∨ 60000000 < timeout
  · go_wp2_with fail
    refine (bnew_span room first timeout (by omega) (by omega) f0 f1 ht _).mono ?_
    rintro e w1 ⟨rfl, B1⟩
    go_wp2_with fail
    refine (booked_any _).mono ?_
    rintro e w2 ⟨rfl, B2⟩
    have B3 := B1.trans (B2.mono B1.size)
    go_wp2_with fail
    go_ret
    exact ⟨rfl, B3⟩
  go_wp2_with fail
  refine (bnew_yes room first timeout (by omega) (by omega) f0 f1 (by omega) (by omega) _).mono ?_
  rintro e w1 ⟨bb, S1, rfl, HB1, hS1, B1⟩
  go_wp2_with fail
  refine (short_any ao n c _ (by omega)).mono ?_
  rintro e w2 ⟨rfl, hw2⟩
  have B2 := B1.trans (hw2.mono B1.size)
  have HB2 := HB1.below hw2
  clear B1 HB1 hw2
  by_cases hn : n ≤ 150
  rotate_left
  · rw [decide_eq_false hn]
    go_wp2_with fail
    refine (booked_any _).mono ?_
    rintro e w3 ⟨rfl, B3⟩
    have B4 := B2.trans (B3.mono B2.size)
    go_wp2_with fail
    go_ret
    exact ⟨rfl, B4⟩
  rw [decide_eq_true hn]
  have FO := Ob.fresh w2 #[.slice none 0 0, .int .i64 0, .slice none 0 0, .slice none 0 0, .slice none 0 0] 50
  have BT : Below w2.heap.size w2 (w2.alloc (.cells #[.slice none 0 0, .int .i64 0, .slice none 0 0, .slice none 0 0, .slice none 0 0] 50)) := (Below.refl _ w2).alloc (Nat.le_refl _) _
  have P1 : Pair (w2.alloc (.cells #[.slice none 0 0, .int .i64 0, .slice none 0 0, .slice none 0 0, .slice none 0 0] 50)) bb w2.heap.size S1 [w2.heap.size] first ⟨⟨room, first, first, first, 0, []⟩, 0, timeout, 0, []⟩ ⟨[], 0, []⟩ := by
    refine ⟨HB2.below BT, ⟨none, 0, 0, 0, none, 0, 0, none, 0, 0, none, 0, 0, ?_⟩, fun k hk hT => ?_, new_fit (lnew_ok room first (by omega) (by omega) f0 f1) rfl rfl (by omega) (by omega), sums_new first room timeout⟩
    · exact ⟨by simpa [tcells] using FO, Mis.nil _ _ _, Nts.nil _ _, Nts.nil _ _, Nts.nil _ _, fun h => absurd h (by omega), fun h => absurd h (by omega), fun h => absurd h (by omega), fun h => absurd h (by omega), by simp, fun k hk => by simp at hk; rw [hk]; exact FO.lt⟩
    · rw [List.mem_singleton] at hT
      have := HB2.low k hk
      omega
  have hST : ∀ k ∈ S1 ++ [w2.heap.size], w.heap.size ≤ k := fun k hk => by
    rcases List.mem_append.1 hk with h1 | h1
    · exact hS1 k h1
    · rw [List.mem_singleton] at h1; rw [h1]; exact B2.size
  have B3 := B2.trans (BT.mono B2.size)
  clear FO BT HB2 hS1 B2
  go_wp2_with fail
  generalize w2.alloc (.cells #[.slice none 0 0, .int .i64 0, .slice none 0 0, .slice none 0 0, .slice none 0 0] 50) = w5 at *
  generalize w2.heap.size = tb at *
  go_loopw [12] (fun v12 wr => ∃ (i : Nat) (s : Bk) (t : Ty) (S T : List Nat), i ≤ n ∧ v12 = .int .i64 i ∧ s.begun ≤ i ∧ t.P.length ≤ i ∧ Pair wr bb tb S T first s t ∧ (∀ k ∈ S ++ T, w.heap.size ≤ k) ∧ Below w.heap.size w wr) (fun v12 _ => n - (intOf v12).toNat)
  case atStart => exact ⟨0, _, _, S1, [tb], Nat.zero_le _, rfl, Int.le_refl _, Nat.le_refl _, P1, hST, B3⟩
  case round =>
    clear P1 hST B3
    obtain ⟨i, s, t, S, T, hi, rfl, hbeg, hPn, hpair, hS, hB⟩ := hrel
    by_cases hin : (i : Int) < (n : Int)
    · have hzr := hz.below hB
      obtain ⟨b, o, rfl, hbl, hc⟩ := hzr.at' (by omega)
      have hbd := hzr.bd i
      obtain ⟨c0, c1, c2, c3⟩ := hc i (by omega)
      clear hc hzr
      generalize Z i = z at *
      obtain ⟨⟨k0, k1⟩, ⟨s0, s1⟩, ⟨a0, a1⟩, q0, q1⟩ := hbd
      obtain ⟨zk, zs, za, zq⟩ := z
      simp only at *
      have hBD : Below w.heap.size w wr.drew := hB.drew
      have T := tstep_any bb tb S T first s t zk zs za zq s0 s1 a0 a1 q0 q1 f0 f1 (by omega) (by omega) wr.drew (hpair.below (Below.refl _ _).drew)
      clear hpair hB hz
      go_upto_region 8 with fail
      refine wp_region_any (by kernel_rfl) ?_
      try (change wpAny _ _ _ _ _ _ _ (World.drew _))
      refine wpAny_take (i := 0) (oi := ⟨_, _, _, _, _, _⟩) (v := ?_) rfl (by kernel_rfl) (by kernel_rfl) (by kernel_rfl) (fun _ _ _ h => h) (Or.inl ⟨by rfl, ?_⟩) ?_
      rotate_left
      · (intro w; go_simp; try with_reducible rfl)
      try simp only [Act.put, List.setIfInBounds_toArray, List.set_cons_zero, List.set_cons_succ]
      refine wpAny_take (i := 1) (oi := ⟨_, _, _, _, _, _⟩) (v := ?_) rfl (by kernel_rfl) (by kernel_rfl) (by kernel_rfl) (fun _ _ _ h => h) (Or.inl ⟨by rfl, ?_⟩) ?_
      rotate_left
      · (intro w; go_simp; try with_reducible rfl)
      try simp only [Act.put, List.setIfInBounds_toArray, List.set_cons_zero, List.set_cons_succ]
      refine wpAny_take (i := 2) (oi := ⟨_, _, _, _, _, _⟩) (v := ?_) rfl (by kernel_rfl) (by kernel_rfl) (by kernel_rfl) (fun _ _ _ h => h) (Or.inl ⟨by rfl, ?_⟩) ?_
      rotate_left
      · (intro w; go_simp; try with_reducible rfl)
      try simp only [Act.put, List.setIfInBounds_toArray, List.set_cons_zero, List.set_cons_succ]
      refine wpAny_take (i := 3) (oi := ⟨_, _, _, _, _, _⟩) (v := ?_) rfl (by kernel_rfl) (by kernel_rfl) (by kernel_rfl) (fun _ _ _ h => h) (Or.inl ⟨by rfl, ?_⟩) ?_
      rotate_left
      · (intro w; go_simp; try with_reducible rfl)
      try simp only [Act.put, List.setIfInBounds_toArray, List.set_cons_zero, List.set_cons_succ]
      refine wpAny_take (i := 4) (oi := ⟨_, _, _, _, _, _⟩) (v := ?_) rfl (by kernel_rfl) (by kernel_rfl) (by kernel_rfl) (fun _ _ _ h => h) (Or.inl ⟨by rfl, ?_⟩) ?_
      rotate_left
      · (intro w; go_simp; try with_reducible rfl)
      try simp only [Act.put, List.setIfInBounds_toArray, List.set_cons_zero, List.set_cons_succ]
      refine wpAny_take (i := 6) (oi := ⟨_, _, _, _, _, _⟩) (v := ?_) rfl (by kernel_rfl) (by kernel_rfl) (by kernel_rfl) (fun _ _ _ h => h) (Or.inl ⟨by rfl, ?_⟩) ?_
      rotate_left
      · (intro w; go_simp; try with_reducible rfl)
      try simp only [Act.put, List.setIfInBounds_toArray, List.set_cons_zero, List.set_cons_succ]
      refine wpAny_ready (rs := [5]) (by kernel_rfl) (by simp) ?_
      refine AllReady.cons (o := ⟨_, _, _, _, _, _⟩) rfl (fun K hK => ?_) AllReady.nil
      go_simp
      refine hK _ _ ?_
      clear hK K
      try simp only [Act.put, List.setIfInBounds_toArray, List.set_cons_zero, List.set_cons_succ]
      refine wpAny_ready (rs := [7]) (by kernel_rfl) (by simp) ?_
      refine AllReady.cons (o := ⟨_, _, _, _, _, _⟩) rfl (fun K hK => ?_) AllReady.nil
      go_simp
      refine T.mono ?_
      clear T
      rintro e w3 ⟨rfl, S2, T2, s2, t2, R⟩
      have hp := R.p
      obtain ⟨ao5, g5, o5, c5, aF, gF, cF, aA, gA, cA, aZ, gZ, cZ, HT⟩ := hp.y
      have p15 := HT.cells.1
      have p19 := HT.cells.2.1
      have hlen := hp.m.len
      obtain ⟨bo, hSL, hMs⟩ := slM_run HT.row hp.m.tk
      rw [← hlen] at hSL hMs
      rw [hp.m.dr] at hMs
      clear hlen
      obtain ⟨B3, hS3, hz3⟩ := Goes.on hBD hBD.size hS R.g
      have HB : Hid (s2.begun ≤ s.begun + 1 ∧ t2.P.length ≤ t.P.length + 1) := ⟨R.b, R.n⟩
      clear R hBD hS
      (try (refine hK _ _ ?_))
      clear hK K
      try simp only [Act.put, List.setIfInBounds_toArray, List.set_cons_zero, List.set_cons_succ]
      refine wpAny_take (i := 8) (oi := ⟨_, _, _, _, _, _⟩) (v := ?_) rfl (by kernel_rfl) (by kernel_rfl) (by kernel_rfl) (fun _ _ _ h => h) (Or.inl ⟨by rfl, ?_⟩) ?_
      rotate_left
      · (intro w; go_simp; try with_reducible rfl)
      try simp only [Act.put, List.setIfInBounds_toArray, List.set_cons_zero, List.set_cons_succ]
      refine wpAny_take (i := 9) (oi := ⟨_, _, _, _, _, _⟩) (v := ?_) rfl (by kernel_rfl) (by kernel_rfl) (by kernel_rfl) (fun _ _ _ h => h) (Or.inl ⟨by rfl, ?_⟩) ?_
      rotate_left
      · (intro w; go_simp; try with_reducible rfl)
      try simp only [Act.put, List.setIfInBounds_toArray, List.set_cons_zero, List.set_cons_succ]
      refine wpAny_take (i := 10) (oi := ⟨_, _, _, _, _, _⟩) (v := ?_) rfl (by kernel_rfl) (by kernel_rfl) (by kernel_rfl) (fun _ _ _ h => h) (Or.inl ⟨by rfl, ?_⟩) ?_
      rotate_left
      · (intro w; go_simp; try with_reducible rfl)
      try simp only [Act.put, List.setIfInBounds_toArray, List.set_cons_zero, List.set_cons_succ]
      refine wpAny_take (i := 12) (oi := ⟨_, _, _, _, _, _⟩) (v := ?_) rfl (by kernel_rfl) (by kernel_rfl) (by kernel_rfl) (fun _ _ _ h => h) (Or.inl ⟨by rfl, ?_⟩) ?_
      rotate_left
      · (intro w; go_simp; try with_reducible rfl)
      try simp only [Act.put, List.setIfInBounds_toArray, List.set_cons_zero, List.set_cons_succ]
      refine wpAny_take (i := 13) (oi := ⟨_, _, _, _, _, _⟩) (v := ?_) rfl (by kernel_rfl) (by kernel_rfl) (by kernel_rfl) (fun _ _ _ h => h) (Or.inl ⟨by rfl, ?_⟩) ?_
      rotate_left
      · (intro w; go_simp; try with_reducible rfl)
      try simp only [Act.put, List.setIfInBounds_toArray, List.set_cons_zero, List.set_cons_succ]
      refine wpAny_take (i := 14) (oi := ⟨_, _, _, _, _, _⟩) (v := ?_) rfl (by kernel_rfl) (by kernel_rfl) (by kernel_rfl) (fun _ _ _ h => h) (Or.inl ⟨by rfl, ?_⟩) ?_
      rotate_left
      · (intro w; go_simp; try with_reducible rfl)
      try simp only [Act.put, List.setIfInBounds_toArray, List.set_cons_zero, List.set_cons_succ]
      refine wpAny_take (i := 16) (oi := ⟨_, _, _, _, _, _⟩) (v := ?_) rfl (by kernel_rfl) (by kernel_rfl) (by kernel_rfl) (fun _ _ _ h => h) (Or.inl ⟨by rfl, ?_⟩) ?_
      rotate_left
      · (intro w; go_simp; try with_reducible rfl)
      try simp only [Act.put, List.setIfInBounds_toArray, List.set_cons_zero, List.set_cons_succ]
      refine wpAny_take (i := 17) (oi := ⟨_, _, _, _, _, _⟩) (v := ?_) rfl (by kernel_rfl) (by kernel_rfl) (by kernel_rfl) (fun _ _ _ h => h) (Or.inl ⟨by rfl, ?_⟩) ?_
      rotate_left
      · (intro w; go_simp; try with_reducible rfl)
      try simp only [Act.put, List.setIfInBounds_toArray, List.set_cons_zero, List.set_cons_succ]
      refine wpAny_take (i := 18) (oi := ⟨_, _, _, _, _, _⟩) (v := ?_) rfl (by kernel_rfl) (by kernel_rfl) (by kernel_rfl) (fun _ _ _ h => h) (Or.inl ⟨by rfl, ?_⟩) ?_
      rotate_left
      · (intro w; go_simp; try with_reducible rfl)
      try simp only [Act.put, List.setIfInBounds_toArray, List.set_cons_zero, List.set_cons_succ]
      refine wpAny_ready (rs := [11, 15, 19]) (by kernel_rfl) (by simp) ?_
      refine AllReady.cons (o := ⟨_, _, _, _, _, _⟩) rfl (fun K hK => ?_) (AllReady.cons (o := ⟨_, _, _, _, _, _⟩) rfl (fun K hK => ?_) (AllReady.cons (o := ⟨_, _, _, _, _, _⟩) rfl (fun K hK => ?_) AllReady.nil))
      · skip
        go_simp
        refine (mis_any bb S2 s2 hp.f _ hp.b).mono ?_
        rintro e w4 ⟨ao4, g4, o4, c4, rfl, hM4, B4⟩
        have p15' := (HT.below B4).cells.1
        have p19' := (HT.below B4).cells.2.1
        (try (refine hK _ _ ?_))
        clear hK K
        try simp only [Act.put, List.setIfInBounds_toArray, List.set_cons_zero, List.set_cons_succ]
        refine wpAny_ready (rs := [15, 19]) (by kernel_rfl) (by simp) ?_
        refine AllReady.cons (o := ⟨_, _, _, _, _, _⟩) rfl (fun K hK => ?_) (AllReady.cons (o := ⟨_, _, _, _, _, _⟩) rfl (fun K hK => ?_) AllReady.nil)
        · skip
          go_simp
          refine hK _ _ ?_
          clear hK K
          try simp only [Act.put, List.setIfInBounds_toArray, List.set_cons_zero, List.set_cons_succ]
          refine wpAny_ready (rs := [19]) (by kernel_rfl) (by simp) ?_
          refine AllReady.cons (o := ⟨_, _, _, _, _, _⟩) rfl (fun K hK => ?_) AllReady.nil
          go_simp
          refine hK _ _ ?_
          clear hK K
          try simp only [Act.put, List.setIfInBounds_toArray, List.set_cons_zero, List.set_cons_succ]
          refine wpAny_take (i := 20) (oi := ⟨_, _, _, _, _, _⟩) (v := ?_) rfl (by kernel_rfl) (by kernel_rfl) (by kernel_rfl) (fun _ _ _ h => h) (Or.inl ⟨by rfl, ?_⟩) ?_
          rotate_left
          · (intro w; go_simp; try with_reducible rfl)
          try simp only [Act.put, List.setIfInBounds_toArray, List.set_cons_zero, List.set_cons_succ]
          refine wpAny_ready (rs := [21]) (by kernel_rfl) (by simp) ?_
          refine AllReady.cons (o := ⟨_, _, _, _, _, _⟩) rfl (fun K hK => ?_) AllReady.nil
          go_simp
          refine (nsame_any _ _ _ _ _ _ _ _ _ s2.L _ hM4 (hMs _ (HT.below B4).row)).mono ?_
          rintro e w6 ⟨rfl, hw6⟩
          have B6 : Below w3.heap.size w3 w6 := B4.trans (hw6.mono B4.size)
          clear hM4
          (try (refine hK _ _ ?_))
          clear hK K
          try simp only [Act.put, List.setIfInBounds_toArray, List.set_cons_zero, List.set_cons_succ]
          refine wpAny_take (i := 22) (oi := ⟨_, _, _, _, _, _⟩) (v := ?_) rfl (by kernel_rfl) (by kernel_rfl) (by kernel_rfl) (fun _ _ _ h => h) (Or.inl ⟨by rfl, ?_⟩) ?_
          rotate_left
          · (intro w; go_simp; try with_reducible rfl)
          try simp only [Act.put, List.setIfInBounds_toArray, List.set_cons_zero, List.set_cons_succ]
          refine wpAny_take (i := 23) (oi := ⟨_, _, _, _, _, _⟩) (v := ?_) rfl (by kernel_rfl) (by kernel_rfl) (by kernel_rfl) (fun _ _ _ h => h) (Or.inl ⟨by rfl, ?_⟩) ?_
          rotate_left
          · (intro w; go_simp; try with_reducible rfl)
          try simp only [Act.put, List.setIfInBounds_toArray, List.set_cons_zero, List.set_cons_succ]
          refine wpAny_done (by kernel_rfl) ?_ _
          go_wp2_with fail
          exact ⟨⟨i + 1, s2, t2, S2, T2, by omega, by simp, by have := HB.out.1; push_cast; omega, by have := HB.out.2; omega, hp.below B6, hS3, B3.trans (B6.mono hz3)⟩, by simp only [intOf]; omega⟩
        · skip
          go_simp
          refine hK _ _ ?_
          clear hK K
          try simp only [Act.put, List.setIfInBounds_toArray, List.set_cons_zero, List.set_cons_succ]
          refine wpAny_ready (rs := [15]) (by kernel_rfl) (by simp) ?_
          refine AllReady.cons (o := ⟨_, _, _, _, _, _⟩) rfl (fun K hK => ?_) AllReady.nil
          go_simp
          refine hK _ _ ?_
          clear hK K
          try simp only [Act.put, List.setIfInBounds_toArray, List.set_cons_zero, List.set_cons_succ]
          refine wpAny_take (i := 20) (oi := ⟨_, _, _, _, _, _⟩) (v := ?_) rfl (by kernel_rfl) (by kernel_rfl) (by kernel_rfl) (fun _ _ _ h => h) (Or.inl ⟨by rfl, ?_⟩) ?_
          rotate_left
          · (intro w; go_simp; try with_reducible rfl)
          try simp only [Act.put, List.setIfInBounds_toArray, List.set_cons_zero, List.set_cons_succ]
          refine wpAny_ready (rs := [21]) (by kernel_rfl) (by simp) ?_
          refine AllReady.cons (o := ⟨_, _, _, _, _, _⟩) rfl (fun K hK => ?_) AllReady.nil
          go_simp
          refine (nsame_any _ _ _ _ _ _ _ _ _ s2.L _ hM4 (hMs _ (HT.below B4).row)).mono ?_
          rintro e w6 ⟨rfl, hw6⟩
          have B6 : Below w3.heap.size w3 w6 := B4.trans (hw6.mono B4.size)
          clear hM4
          (try (refine hK _ _ ?_))
          clear hK K
          try simp only [Act.put, List.setIfInBounds_toArray, List.set_cons_zero, List.set_cons_succ]
          refine wpAny_take (i := 22) (oi := ⟨_, _, _, _, _, _⟩) (v := ?_) rfl (by kernel_rfl) (by kernel_rfl) (by kernel_rfl) (fun _ _ _ h => h) (Or.inl ⟨by rfl, ?_⟩) ?_
          rotate_left
          · (intro w; go_simp; try with_reducible rfl)
          try simp only [Act.put, List.setIfInBounds_toArray, List.set_cons_zero, List.set_cons_succ]
          refine wpAny_take (i := 23) (oi := ⟨_, _, _, _, _, _⟩) (v := ?_) rfl (by kernel_rfl) (by kernel_rfl) (by kernel_rfl) (fun _ _ _ h => h) (Or.inl ⟨by rfl, ?_⟩) ?_
          rotate_left
          · (intro w; go_simp; try with_reducible rfl)
          try simp only [Act.put, List.setIfInBounds_toArray, List.set_cons_zero, List.set_cons_succ]
          refine wpAny_done (by kernel_rfl) ?_ _
          go_wp2_with fail
          exact ⟨⟨i + 1, s2, t2, S2, T2, by omega, by simp, by have := HB.out.1; push_cast; omega, by have := HB.out.2; omega, hp.below B6, hS3, B3.trans (B6.mono hz3)⟩, by simp only [intOf]; omega⟩
      · skip
        go_simp
        refine hK _ _ ?_
        clear hK K
        try simp only [Act.put, List.setIfInBounds_toArray, List.set_cons_zero, List.set_cons_succ]
        refine wpAny_ready (rs := [11, 19]) (by kernel_rfl) (by simp) ?_
        refine AllReady.cons (o := ⟨_, _, _, _, _, _⟩) rfl (fun K hK => ?_) (AllReady.cons (o := ⟨_, _, _, _, _, _⟩) rfl (fun K hK => ?_) AllReady.nil)
        · skip
          go_simp
          refine (mis_any bb S2 s2 hp.f _ hp.b).mono ?_
          rintro e w4 ⟨ao4, g4, o4, c4, rfl, hM4, B4⟩
          have p15' := (HT.below B4).cells.1
          have p19' := (HT.below B4).cells.2.1
          (try (refine hK _ _ ?_))
          clear hK K
          try simp only [Act.put, List.setIfInBounds_toArray, List.set_cons_zero, List.set_cons_succ]
          refine wpAny_ready (rs := [19]) (by kernel_rfl) (by simp) ?_
          refine AllReady.cons (o := ⟨_, _, _, _, _, _⟩) rfl (fun K hK => ?_) AllReady.nil
          go_simp
          refine hK _ _ ?_
          clear hK K
          try simp only [Act.put, List.setIfInBounds_toArray, List.set_cons_zero, List.set_cons_succ]
          refine wpAny_take (i := 20) (oi := ⟨_, _, _, _, _, _⟩) (v := ?_) rfl (by kernel_rfl) (by kernel_rfl) (by kernel_rfl) (fun _ _ _ h => h) (Or.inl ⟨by rfl, ?_⟩) ?_
          rotate_left
          · (intro w; go_simp; try with_reducible rfl)
          try simp only [Act.put, List.setIfInBounds_toArray, List.set_cons_zero, List.set_cons_succ]
          refine wpAny_ready (rs := [21]) (by kernel_rfl) (by simp) ?_
          refine AllReady.cons (o := ⟨_, _, _, _, _, _⟩) rfl (fun K hK => ?_) AllReady.nil
          go_simp
          refine (nsame_any _ _ _ _ _ _ _ _ _ s2.L _ hM4 (hMs _ (HT.below B4).row)).mono ?_
          rintro e w6 ⟨rfl, hw6⟩
          have B6 : Below w3.heap.size w3 w6 := B4.trans (hw6.mono B4.size)
          clear hM4
          (try (refine hK _ _ ?_))
          clear hK K
          try simp only [Act.put, List.setIfInBounds_toArray, List.set_cons_zero, List.set_cons_succ]
          refine wpAny_take (i := 22) (oi := ⟨_, _, _, _, _, _⟩) (v := ?_) rfl (by kernel_rfl) (by kernel_rfl) (by kernel_rfl) (fun _ _ _ h => h) (Or.inl ⟨by rfl, ?_⟩) ?_
          rotate_left
          · (intro w; go_simp; try with_reducible rfl)
          try simp only [Act.put, List.setIfInBounds_toArray, List.set_cons_zero, List.set_cons_succ]
          refine wpAny_take (i := 23) (oi := ⟨_, _, _, _, _, _⟩) (v := ?_) rfl (by kernel_rfl) (by kernel_rfl) (by kernel_rfl) (fun _ _ _ h => h) (Or.inl ⟨by rfl, ?_⟩) ?_
          rotate_left
          · (intro w; go_simp; try with_reducible rfl)
          try simp only [Act.put, List.setIfInBounds_toArray, List.set_cons_zero, List.set_cons_succ]
          refine wpAny_done (by kernel_rfl) ?_ _
          go_wp2_with fail
          exact ⟨⟨i + 1, s2, t2, S2, T2, by omega, by simp, by have := HB.out.1; push_cast; omega, by have := HB.out.2; omega, hp.below B6, hS3, B3.trans (B6.mono hz3)⟩, by simp only [intOf]; omega⟩
        · skip
          go_simp
          refine hK _ _ ?_
          clear hK K
          try simp only [Act.put, List.setIfInBounds_toArray, List.set_cons_zero, List.set_cons_succ]
          refine wpAny_take (i := 20) (oi := ⟨_, _, _, _, _, _⟩) (v := ?_) rfl (by kernel_rfl) (by kernel_rfl) (by kernel_rfl) (fun _ _ _ h => h) (Or.inl ⟨by rfl, ?_⟩) ?_
          rotate_left
          · (intro w; go_simp; try with_reducible rfl)
          try simp only [Act.put, List.setIfInBounds_toArray, List.set_cons_zero, List.set_cons_succ]
          refine wpAny_ready (rs := [11]) (by kernel_rfl) (by simp) ?_
          refine AllReady.cons (o := ⟨_, _, _, _, _, _⟩) rfl (fun K hK => ?_) AllReady.nil
          go_simp
          refine (mis_any bb S2 s2 hp.f _ hp.b).mono ?_
          rintro e w4 ⟨ao4, g4, o4, c4, rfl, hM4, B4⟩
          have p15' := (HT.below B4).cells.1
          have p19' := (HT.below B4).cells.2.1
          (try (refine hK _ _ ?_))
          clear hK K
          try simp only [Act.put, List.setIfInBounds_toArray, List.set_cons_zero, List.set_cons_succ]
          refine wpAny_ready (rs := [21]) (by kernel_rfl) (by simp) ?_
          refine AllReady.cons (o := ⟨_, _, _, _, _, _⟩) rfl (fun K hK => ?_) AllReady.nil
          go_simp
          refine (nsame_any _ _ _ _ _ _ _ _ _ s2.L _ hM4 (hMs _ (HT.below B4).row)).mono ?_
          rintro e w6 ⟨rfl, hw6⟩
          have B6 : Below w3.heap.size w3 w6 := B4.trans (hw6.mono B4.size)
          clear hM4
          (try (refine hK _ _ ?_))
          clear hK K
          try simp only [Act.put, List.setIfInBounds_toArray, List.set_cons_zero, List.set_cons_succ]
          refine wpAny_take (i := 22) (oi := ⟨_, _, _, _, _, _⟩) (v := ?_) rfl (by kernel_rfl) (by kernel_rfl) (by kernel_rfl) (fun _ _ _ h => h) (Or.inl ⟨by rfl, ?_⟩) ?_
          rotate_left
          · (intro w; go_simp; try with_reducible rfl)
          try simp only [Act.put, List.setIfInBounds_toArray, List.set_cons_zero, List.set_cons_succ]
          refine wpAny_take (i := 23) (oi := ⟨_, _, _, _, _, _⟩) (v := ?_) rfl (by kernel_rfl) (by kernel_rfl) (by kernel_rfl) (fun _ _ _ h => h) (Or.inl ⟨by rfl, ?_⟩) ?_
          rotate_left
          · (intro w; go_simp; try with_reducible rfl)
          try simp only [Act.put, List.setIfInBounds_toArray, List.set_cons_zero, List.set_cons_succ]
          refine wpAny_done (by kernel_rfl) ?_ _
          go_wp2_with fail
          exact ⟨⟨i + 1, s2, t2, S2, T2, by omega, by simp, by have := HB.out.1; push_cast; omega, by have := HB.out.2; omega, hp.below B6, hS3, B3.trans (B6.mono hz3)⟩, by simp only [intOf]; omega⟩
      · skip
        go_simp
        refine hK _ _ ?_
        clear hK K
        try simp only [Act.put, List.setIfInBounds_toArray, List.set_cons_zero, List.set_cons_succ]
        refine wpAny_ready (rs := [11, 15]) (by kernel_rfl) (by simp) ?_
        refine AllReady.cons (o := ⟨_, _, _, _, _, _⟩) rfl (fun K hK => ?_) (AllReady.cons (o := ⟨_, _, _, _, _, _⟩) rfl (fun K hK => ?_) AllReady.nil)
        · skip
          go_simp
          refine (mis_any bb S2 s2 hp.f _ hp.b).mono ?_
          rintro e w4 ⟨ao4, g4, o4, c4, rfl, hM4, B4⟩
          have p15' := (HT.below B4).cells.1
          have p19' := (HT.below B4).cells.2.1
          (try (refine hK _ _ ?_))
          clear hK K
          try simp only [Act.put, List.setIfInBounds_toArray, List.set_cons_zero, List.set_cons_succ]
          refine wpAny_ready (rs := [15]) (by kernel_rfl) (by simp) ?_
          refine AllReady.cons (o := ⟨_, _, _, _, _, _⟩) rfl (fun K hK => ?_) AllReady.nil
          go_simp
          refine hK _ _ ?_
          clear hK K
          try simp only [Act.put, List.setIfInBounds_toArray, List.set_cons_zero, List.set_cons_succ]
          refine wpAny_take (i := 20) (oi := ⟨_, _, _, _, _, _⟩) (v := ?_) rfl (by kernel_rfl) (by kernel_rfl) (by kernel_rfl) (fun _ _ _ h => h) (Or.inl ⟨by rfl, ?_⟩) ?_
          rotate_left
          · (intro w; go_simp; try with_reducible rfl)
          try simp only [Act.put, List.setIfInBounds_toArray, List.set_cons_zero, List.set_cons_succ]
          refine wpAny_ready (rs := [21]) (by kernel_rfl) (by simp) ?_
          refine AllReady.cons (o := ⟨_, _, _, _, _, _⟩) rfl (fun K hK => ?_) AllReady.nil
          go_simp
          refine (nsame_any _ _ _ _ _ _ _ _ _ s2.L _ hM4 (hMs _ (HT.below B4).row)).mono ?_
          rintro e w6 ⟨rfl, hw6⟩
          have B6 : Below w3.heap.size w3 w6 := B4.trans (hw6.mono B4.size)
          clear hM4
          (try (refine hK _ _ ?_))
          clear hK K
          try simp only [Act.put, List.setIfInBounds_toArray, List.set_cons_zero, List.set_cons_succ]
          refine wpAny_take (i := 22) (oi := ⟨_, _, _, _, _, _⟩) (v := ?_) rfl (by kernel_rfl) (by kernel_rfl) (by kernel_rfl) (fun _ _ _ h => h) (Or.inl ⟨by rfl, ?_⟩) ?_
          rotate_left
          · (intro w; go_simp; try with_reducible rfl)
          try simp only [Act.put, List.setIfInBounds_toArray, List.set_cons_zero, List.set_cons_succ]
          refine wpAny_take (i := 23) (oi := ⟨_, _, _, _, _, _⟩) (v := ?_) rfl (by kernel_rfl) (by kernel_rfl) (by kernel_rfl) (fun _ _ _ h => h) (Or.inl ⟨by rfl, ?_⟩) ?_
          rotate_left
          · (intro w; go_simp; try with_reducible rfl)
          try simp only [Act.put, List.setIfInBounds_toArray, List.set_cons_zero, List.set_cons_succ]
          refine wpAny_done (by kernel_rfl) ?_ _
          go_wp2_with fail
          exact ⟨⟨i + 1, s2, t2, S2, T2, by omega, by simp, by have := HB.out.1; push_cast; omega, by have := HB.out.2; omega, hp.below B6, hS3, B3.trans (B6.mono hz3)⟩, by simp only [intOf]; omega⟩
        · skip
          go_simp
          refine hK _ _ ?_
          clear hK K
          try simp only [Act.put, List.setIfInBounds_toArray, List.set_cons_zero, List.set_cons_succ]
          refine wpAny_take (i := 20) (oi := ⟨_, _, _, _, _, _⟩) (v := ?_) rfl (by kernel_rfl) (by kernel_rfl) (by kernel_rfl) (fun _ _ _ h => h) (Or.inl ⟨by rfl, ?_⟩) ?_
          rotate_left
          · (intro w; go_simp; try with_reducible rfl)
          try simp only [Act.put, List.setIfInBounds_toArray, List.set_cons_zero, List.set_cons_succ]
          refine wpAny_ready (rs := [11]) (by kernel_rfl) (by simp) ?_
          refine AllReady.cons (o := ⟨_, _, _, _, _, _⟩) rfl (fun K hK => ?_) AllReady.nil
          go_simp
          refine (mis_any bb S2 s2 hp.f _ hp.b).mono ?_
          rintro e w4 ⟨ao4, g4, o4, c4, rfl, hM4, B4⟩
          have p15' := (HT.below B4).cells.1
          have p19' := (HT.below B4).cells.2.1
          (try (refine hK _ _ ?_))
          clear hK K
          try simp only [Act.put, List.setIfInBounds_toArray, List.set_cons_zero, List.set_cons_succ]
          refine wpAny_ready (rs := [21]) (by kernel_rfl) (by simp) ?_
          refine AllReady.cons (o := ⟨_, _, _, _, _, _⟩) rfl (fun K hK => ?_) AllReady.nil
          go_simp
          refine (nsame_any _ _ _ _ _ _ _ _ _ s2.L _ hM4 (hMs _ (HT.below B4).row)).mono ?_
          rintro e w6 ⟨rfl, hw6⟩
          have B6 : Below w3.heap.size w3 w6 := B4.trans (hw6.mono B4.size)
          clear hM4
          (try (refine hK _ _ ?_))
          clear hK K
          try simp only [Act.put, List.setIfInBounds_toArray, List.set_cons_zero, List.set_cons_succ]
          refine wpAny_take (i := 22) (oi := ⟨_, _, _, _, _, _⟩) (v := ?_) rfl (by kernel_rfl) (by kernel_rfl) (by kernel_rfl) (fun _ _ _ h => h) (Or.inl ⟨by rfl, ?_⟩) ?_
          rotate_left
          · (intro w; go_simp; try with_reducible rfl)
          try simp only [Act.put, List.setIfInBounds_toArray, List.set_cons_zero, List.set_cons_succ]
          refine wpAny_take (i := 23) (oi := ⟨_, _, _, _, _, _⟩) (v := ?_) rfl (by kernel_rfl) (by kernel_rfl) (by kernel_rfl) (fun _ _ _ h => h) (Or.inl ⟨by rfl, ?_⟩) ?_
          rotate_left
          · (intro w; go_simp; try with_reducible rfl)
          try simp only [Act.put, List.setIfInBounds_toArray, List.set_cons_zero, List.set_cons_succ]
          refine wpAny_done (by kernel_rfl) ?_ _
          go_wp2_with fail
          exact ⟨⟨i + 1, s2, t2, S2, T2, by omega, by simp, by have := HB.out.1; push_cast; omega, by have := HB.out.2; omega, hp.below B6, hS3, B3.trans (B6.mono hz3)⟩, by simp only [intOf]; omega⟩
    · have h1 : decide ((i : Int) < (n : Int)) = false := decide_eq_false hin
      go_wp2_with fail
      refine (booked_any _).mono ?_
      rintro e w3 ⟨rfl, B3⟩
      have B4 := hB.trans (B3.mono hB.size)
      go_wp2_with fail
      go_ret
      exact ⟨rfl, B4⟩
end Go.Proofs.Ytpaalpnoppblaaa

/-! LBSums -/
namespace Go.Proofs.Ytpaalpnoppblaaa.booksSums
open Go.ChangeShapes Go.WideShapes Go.ChangeAt Go.RowKit Go.Joins
set_option linter.unusedVariables false

theorem own : ownKnob Try.prog.godebug = none := by kernel_rfl
theorem laidOut : laidOutB Try.prog = true := by kernel_rfl
theorem word_of {x : Int} (h : (Lit.int .u64 x).wf = true) : 0 ≤ x ∧ x ≤ 18446744073709551615 := by
  simp [Lit.wf, IntKind.min, IntKind.max, IntKind.signed, IntKind.bits] at h
  exact ⟨by omega, by omega⟩
theorem int_of {x : Int} (h : (Lit.int .i64 x).wf = true) : -9223372036854775808 ≤ x ∧ x ≤ 9223372036854775807 := by
  simp [Lit.wf, IntKind.min, IntKind.max, IntKind.signed, IntKind.bits] at h
  exact ⟨by omega, by omega⟩

set_option maxRecDepth 100000 in
theorem lifted (os : Os) (started : os.Started) (H : Type) (enc : TypeId × Value → H) :
    ReturnsInHanded {} Try.checked os 4 .any (Rows.booksSumsSpec.pre6 enc Try.prog Try.f4 Rows.booksSumsRow.domain false) (Rows.booksSumsSpec.post enc Try.prog Try.f4 false true false false) := by
  refine returnsInHanded_of_change (C := Try.checked) own started (by kernel_rfl) Try.func4
    (ChangeSpec.witness6 (enc := enc) (C := Try.checked) false ⟨#[], #[.int .i64 0, .int .u64 0, .int .i64 0, .slice none 0 0], []⟩ 8 (by kernel_rfl) (by kernel_rfl) (by kernel_rfl) (by kernel_rfl)) ?_
  intro W base args ds gs before hval0 hW hcnd _
  have hval : ∀ (j : Nat) t v, Try.f4.params[j]? = some t → args[j]? = some v → Value.okWide Try.prog W .any base t v := hval0
  have hW' := hW
  obtain ⟨p, q, hA0, hV, rfl, hfz, hnd⟩ := hW
  have hA : DataW.TrodAll enc Try.prog W 0 (fun _ => true) true Try.f4.params.toList args.toList ds p := hA0
  rw [Try.params4] at hA hval
  obtain ⟨v0, vs0, d0, ds0, p0, q0, hargs, rfl, rfl, h0, r0⟩ := trodAll_cons hA
  obtain ⟨v1, vs1, d1, ds1, p1, q1, rfl, rfl, rfl, h1, r1⟩ := trodAll_cons r0
  obtain ⟨v2, vs2, d2, ds2, p2, q2, rfl, rfl, rfl, h2, r2⟩ := trodAll_cons r1
  obtain ⟨v3, vs3, d3, ds3, p3, q3, rfl, rfl, rfl, h3, r3⟩ := trodAll_cons r2
  obtain ⟨rfl, rfl, rfl⟩ := trodAll_nil r3
  obtain rfl : args = #[v0, v1, v2, v3] := by cases args; simp_all
  obtain ⟨rfl, rfl⟩ := trodVars_none hV
  obtain ⟨a0, rfl, rfl, rfl, w0⟩ := open_int Try.underlying3 (hval 0 3 v0 rfl rfl) h0
  obtain ⟨a1, rfl, rfl, rfl, w1⟩ := open_int Try.underlying22 (hval 1 22 v1 rfl rfl) h1
  obtain ⟨a2, rfl, rfl, rfl, w2⟩ := open_int Try.underlying3 (hval 2 3 v2 rfl rfl) h2
  have k3 := h3
  have lt3 : ∀ x ∈ p3, x.block < W.heap.size := by obtain ⟨m, hm⟩ := k3; exact DataW.trod_lt m _ _ _ hm
  obtain ⟨ao_3, n_3, c_3, Z_3, rfl, hz3⟩ := open_steps (hval 3 23 v3 rfl rfl) h3
  clear hA0 hval0
  refine (bsums_walk a0 a1 a2 ao_3 n_3 c_3 Z_3 (int_of w0).1 (int_of w0).2 (word_of w1).1 (word_of w1).2 (int_of w2).1 (int_of w2).2 W hz3).mono fun e W' ⟨he, bel⟩ => ?_
  subst he
  exact ⟨_, rfl, _, _, _, [], _, [], hW', trodAll_mk1 (shut_bool Try.underlying4 _), (trodAll_cons_mk (shut_int Try.underlying3 w0) (trodAll_cons_mk (shut_int Try.underlying22 w1) (trodAll_cons_mk (shut_int Try.underlying3 w2) (trodAll_cons_mk (Below.trod laidOut (by kernel_rfl) (of_decide_eq_true (by kernel_rfl)) k3 bel lt3) trodAll_mk0)))), rfl, bel.frame _, fun h => by cases h⟩

theorem over : Rows.booksSumsRow.holds Try.pinned (OpenSpec.ofChange Rows.booksSumsSpec) :=
  OpenClaim.holds_of_wide 4 Try.f4 rfl rfl rfl rfl rfl rfl rfl ⟨rfl, rfl, rfl, rfl, rfl⟩ rfl rfl rfl rfl rfl (by kernel_rfl) Try.func4 (by kernel_rfl)
    (of_decide_eq_true (by kernel_rfl)) (by unfold Func.isWrapper; first | (rw [if_pos (by decide +kernel)]; kernel_rfl) | (rw [if_neg (by decide +kernel)]; exact ⟨rfl, rfl⟩))
    (fun os started H enc _ => lifted os started H enc)
theorem proved : Rows.BooksSumsSaid := over
#print axioms proved
end Go.Proofs.Ytpaalpnoppblaaa.booksSums
