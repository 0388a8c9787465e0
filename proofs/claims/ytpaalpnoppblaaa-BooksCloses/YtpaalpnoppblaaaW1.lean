/-
  BooksCloses's walk. No conditions.
-/
import Derived.Test.YtpaalpnoppblaaaW0
namespace Go.Proofs.Ytpaalpnoppblaaa
open Go.RowKit Go.Maps
set_option linter.unusedVariables false
set_option maxRecDepth 8000
theorem wrap_in {x : Int} (h1 : -9223372036854775808 ≤ x) (h2 : x ≤ 9223372036854775807) : IntKind.i64.wrap x = x := by unfold IntKind.wrap; simp [IntKind.bits, IntKind.signed]; omega
attribute [local go_sem ↓] ldM_shut
set_option maxHeartbeats 8000000 in
theorem closes_walk (room first timeout : Int) (ao : Option Addr) (n c : Nat) (Z : Nat → St) (r0 : -9223372036854775808 ≤ room) (r1 : room ≤ 9223372036854775807) (f0 : 0 ≤ first) (f1 : first ≤ 18446744073709551615) (t0 : -9223372036854775808 ≤ timeout) (t1 : timeout ≤ 9223372036854775807) (w : World) (hz : Steps w ao n c Z) :
    Calls Try.prog 5 #[.int .i64 room, .int .u64 first, .int .i64 timeout, .slice ao n c] w fun e w' => e = .returned (.bool true) ∧ Below w.heap.size w w' := by
  have hcap := hz.cap; have hmax := hz.max
  have hmx : maxLen = 9223372036854775807 := rfl
  go_enter Try.func5, Try.ntmps5
  by_cases hr : room < 1 ∨ 4096 < room
  · go_wp2_with fail
    refine (bnew_arg room first timeout hr _).mono ?_
    rintro e w1 ⟨rfl, B1⟩
    go_wp2_with fail
    refine (booked_any _).mono ?_
    rintro e w2 ⟨rfl, B2⟩
    have B3 := B1.trans (B2.mono B1.size)
    go_wp2_with fail
    go_ret
    exact ⟨rfl, B3⟩
  by_cases ht : timeout < 1 ∨ 60000000 < timeout
  · go_wp2_with fail
    refine (bnew_span room first timeout (by omega) (by omega) f0 f1 ht _).mono ?_
    rintro e w1 ⟨rfl, B1⟩
    go_wp2_with fail
    refine (booked_any _).mono ?_
    rintro e w2 ⟨rfl, B2⟩
    have B3 := B1.trans (B2.mono B1.size)
    go_wp2_with fail
    go_ret
    exact ⟨rfl, B3⟩
  go_wp2_with fail
  refine (bnew_yes room first timeout (by omega) (by omega) f0 f1 (by omega) (by omega) _).mono ?_
  rintro e w1 ⟨bb, S1, rfl, HB1, hS1, B1⟩
  go_wp2_with fail
  refine (short_any ao n c _ (by omega)).mono ?_
  rintro e w2 ⟨rfl, hw2⟩
  have B2 := B1.trans (hw2.mono B1.size)
  have HB2 := HB1.below hw2
  clear B1 HB1 hw2
  by_cases hn : n ≤ 150
  rotate_left
  · rw [decide_eq_false hn]
    go_wp2_with fail
    refine (booked_any _).mono ?_
    rintro e w3 ⟨rfl, B3⟩
    have B4 := B2.trans (B3.mono B2.size)
    go_wp2_with fail
    go_ret
    exact ⟨rfl, B4⟩
  rw [decide_eq_true hn]
  have fit1 : Fit ⟨⟨room, first, first, first, 0, []⟩, 0, timeout, 0, []⟩ := new_fit (lnew_ok room first (by omega) (by omega) f0 f1) rfl rfl (by omega) (by omega)
  go_wp2_with fail
  go_loopw [11, 12] (fun v11 v12 wr => ∃ (i : Nat) (s : Bk) (S : List Nat), i ≤ n ∧ v12 = .int .i64 i ∧ Fit s ∧ s.begun ≤ i ∧ s.l.room = room ∧ s.timeout = timeout ∧ Bka wr bb S s ∧ (∀ k ∈ S, w.heap.size ≤ k) ∧ Below w.heap.size w wr ∧ v11 = .int .i64 s.now) (fun _ v12 _ => n - (intOf v12).toNat)
  case atStart => exact ⟨0, _, S1, Nat.zero_le _, rfl, fit1, Int.le_refl _, rfl, rfl, HB2, hS1, B2, rfl⟩
  case round =>
    clear HB2 hS1 B2 fit1
    obtain ⟨i, s, S, hi, rfl, hfit, hbeg, hroom, htime, HB, hS, hB, rfl⟩ := hrel
    by_cases hin : (i : Int) < (n : Int)
    · have hzr := hz.below hB
      obtain ⟨b, o, rfl, hbl, hc⟩ := hzr.at' (by omega)
      have hbd := hzr.bd i
      obtain ⟨c0, c1, c2, c3⟩ := hc i (by omega)
      clear hc
      generalize Z i = z at *
      obtain ⟨⟨k0, k1⟩, ⟨s0, s1⟩, ⟨a0, a1⟩, q0, q1⟩ := hbd
      obtain ⟨zk, zs, za, zq⟩ := z
      simp only at *
      have O := Ob.fresh wr #[.int .i64 zk, .int .i64 zs, .int .i64 za, .int .u64 zq] 34
      have HBA := HB.far ((Far.refl [] wr).alloc (.cells #[.int .i64 zk, .int .i64 zs, .int .i64 za, .int .u64 zq] 34)) (by simp)
      have BA : Below w.heap.size w (wr.alloc (.cells #[.int .i64 zk, .int .i64 zs, .int .i64 za, .int .u64 zq] 34)) := hB.alloc hB.size _
      have hgS : wr.heap.size ∉ S := fun hm => by have := HB.low _ hm; omega
      by_cases hk0 : zk = 0
      · subst hk0
        go_wp2_with fail
        generalize wr.alloc (.cells #[.int .i64 0, .int .i64 zs, .int .i64 za, .int .u64 zq] 34) = W1 at *
        generalize wr.heap.size = g at *
        refine (Begin_any bb S s hfit za a0 a1 (by omega) _ HBA).mono ?_
        rintro e w2 ⟨rfl, S2, HB2, G2⟩
        obtain ⟨B2, hS2, hz2⟩ := Goes.on BA BA.size hS G2
        have O2 := O.far G2.far hgS
        have d2 : w2.cell? ⟨g, 2, none⟩ = some (.int .i64 za) := O2.cell rfl
        have hkp := bg_kept s za
        have hf2 := bg_fit hfit za
        have KP : Hid (Kept s (bgL s za)) := hkp.1
        by_cases hE : bgE s za = 0
        · have hnow : Hid ((bgL s za).now = za) := by show _ = _; rw [hkp.2, if_pos hE]
          clear hkp HB HBA BA hB O G2 O2 c0 c1 c2 c3 hzr
          go_wp2_with fail
          exact ⟨⟨i + 1, bgL s za, S2, by omega, by simp, hf2, by have := KP.out.b; push_cast; omega, by rw [KP.out.r]; exact hroom, by rw [KP.out.t]; exact htime, HB2, hS2, B2, by rw [hnow.out]⟩, by simp only [intOf]; omega⟩
        · have hnow : Hid ((bgL s za).now = s.now) := by show _ = _; rw [hkp.2, if_neg hE]
          clear hkp HB HBA BA hB O G2 O2 c0 c1 c2 c3 hzr
          go_wp2_with fail
          exact ⟨⟨i + 1, bgL s za, S2, by omega, by simp, hf2, by have := KP.out.b; push_cast; omega, by rw [KP.out.r]; exact hroom, by rw [KP.out.t]; exact htime, HB2, hS2, B2, by rw [hnow.out]⟩, by simp only [intOf]; omega⟩
      by_cases hk1 : zk = 1
      · subst hk1
        go_wp2_with fail
        generalize wr.alloc (.cells #[.int .i64 1, .int .i64 zs, .int .i64 za, .int .u64 zq] 34) = W1 at *
        generalize wr.heap.size = g at *
        refine (Send_any bb S s hfit zs za s0 s1 a0 a1 _ HBA).mono ?_
        rintro e w2 ⟨rfl, HB2, F2⟩
        obtain ⟨S2, hS2e⟩ : ∃ S2, S = S2 := ⟨_, rfl⟩
        have G2 : Goes S S2 W1 w2 := ⟨F2, fun k hk => .inl (by rw [hS2e]; exact hk)⟩
        rw [hS2e] at HB2
        obtain ⟨B2, hS2, hz2⟩ := Goes.on BA BA.size hS G2
        have O2 := O.far G2.far hgS
        have d2 : w2.cell? ⟨g, 2, none⟩ = some (.int .i64 za) := O2.cell rfl
        have hkp := sd_kept s zs za
        have hf2 := sd_fit hfit zs za
        have KP : Hid (Kept s (sdL s zs za)) := hkp.1
        by_cases hE : sdE s zs za = 0
        · have hnow : Hid ((sdL s zs za).now = za) := by show _ = _; rw [hkp.2, if_pos hE]
          clear hkp HB HBA BA hB O G2 O2 c0 c1 c2 c3 hzr F2
          go_wp2_with fail
          exact ⟨⟨i + 1, sdL s zs za, S2, by omega, by simp, hf2, by have := KP.out.b; push_cast; omega, by rw [KP.out.r]; exact hroom, by rw [KP.out.t]; exact htime, HB2, hS2, B2, by rw [hnow.out]⟩, by simp only [intOf]; omega⟩
        · have hnow : Hid ((sdL s zs za).now = s.now) := by show _ = _; rw [hkp.2, if_neg hE]
          clear hkp HB HBA BA hB O G2 O2 c0 c1 c2 c3 hzr F2
          go_wp2_with fail
          exact ⟨⟨i + 1, sdL s zs za, S2, by omega, by simp, hf2, by have := KP.out.b; push_cast; omega, by rw [KP.out.r]; exact hroom, by rw [KP.out.t]; exact htime, HB2, hS2, B2, by rw [hnow.out]⟩, by simp only [intOf]; omega⟩
      by_cases hk2 : zk = 2
      · subst hk2
        go_wp2_with fail
        generalize wr.alloc (.cells #[.int .i64 2, .int .i64 zs, .int .i64 za, .int .u64 zq] 34) = W1 at *
        generalize wr.heap.size = g at *
        refine (Ack_any bb S s hfit zq za q0 q1 a0 a1 _ HBA).mono ?_
        rintro e w2 ⟨rfl, HB2, F2⟩
        obtain ⟨S2, hS2e⟩ : ∃ S2, S = S2 := ⟨_, rfl⟩
        have G2 : Goes S S2 W1 w2 := ⟨F2, fun k hk => .inl (by rw [hS2e]; exact hk)⟩
        rw [hS2e] at HB2
        obtain ⟨B2, hS2, hz2⟩ := Goes.on BA BA.size hS G2
        have O2 := O.far G2.far hgS
        obtain ⟨P, hP⟩ : ∃ P, stP s zq za = P := ⟨_, rfl⟩
        rw [hP]
        clear hP
        replace O2 := O2.far ((Far.refl [] w2).alloc (.cells #[.int .u64 P.seq, .int .i64 P.mi, .int .i64 P.size, .int .i64 P.sent] 57)) (by simp)
        replace HB2 := HB2.far ((Far.refl [] w2).alloc (.cells #[.int .u64 P.seq, .int .i64 P.mi, .int .i64 P.size, .int .i64 P.sent] 57)) (by simp)
        replace B2 : Below w.heap.size w (w2.alloc (.cells #[.int .u64 P.seq, .int .i64 P.mi, .int .i64 P.size, .int .i64 P.sent] 57)) := B2.alloc B2.size _
        have d2 : (w2.alloc (.cells #[.int .u64 P.seq, .int .i64 P.mi, .int .i64 P.size, .int .i64 P.sent] 57)).cell? ⟨g, 2, none⟩ = some (.int .i64 za) := O2.cell rfl
        have d2' : w2.cell? ⟨g, 2, none⟩ = some (.int .i64 za) := (O.far G2.far hgS).cell rfl
        have hgl : g < w2.heap.size := (O.far G2.far hgS).lt
        have hkp := st_kept true s zq za
        have hf2 := st_fit hfit true zq za
        have KP : Hid (Kept s (stL true s zq za)) := hkp.1
        by_cases hE : stE s zq za = 0
        · have hnow : Hid ((stL true s zq za).now = za) := by show _ = _; rw [hkp.2, if_pos hE]
          clear hkp HB HBA BA hB O G2 O2 c0 c1 c2 c3 hzr F2
          go_wp2_with fail
          exact ⟨⟨i + 1, stL true s zq za, S2, by omega, by simp, hf2, by have := KP.out.b; push_cast; omega, by rw [KP.out.r]; exact hroom, by rw [KP.out.t]; exact htime, HB2, hS2, B2, by rw [hnow.out]⟩, by simp only [intOf]; omega⟩
        · have hnow : Hid ((stL true s zq za).now = s.now) := by show _ = _; rw [hkp.2, if_neg hE]
          clear hkp HB HBA BA hB O G2 O2 c0 c1 c2 c3 hzr F2
          go_wp2_with fail
          exact ⟨⟨i + 1, stL true s zq za, S2, by omega, by simp, hf2, by have := KP.out.b; push_cast; omega, by rw [KP.out.r]; exact hroom, by rw [KP.out.t]; exact htime, HB2, hS2, B2, by rw [hnow.out]⟩, by simp only [intOf]; omega⟩
      by_cases hk3 : zk = 3
      · subst hk3
        go_wp2_with fail
        generalize wr.alloc (.cells #[.int .i64 3, .int .i64 zs, .int .i64 za, .int .u64 zq] 34) = W1 at *
        generalize wr.heap.size = g at *
        refine (Lose_any bb S s hfit zq za q0 q1 a0 a1 _ HBA).mono ?_
        rintro e w2 ⟨rfl, HB2, F2⟩
        obtain ⟨S2, hS2e⟩ : ∃ S2, S = S2 := ⟨_, rfl⟩
        have G2 : Goes S S2 W1 w2 := ⟨F2, fun k hk => .inl (by rw [hS2e]; exact hk)⟩
        rw [hS2e] at HB2
        obtain ⟨B2, hS2, hz2⟩ := Goes.on BA BA.size hS G2
        have O2 := O.far G2.far hgS
        obtain ⟨P, hP⟩ : ∃ P, stP s zq za = P := ⟨_, rfl⟩
        rw [hP]
        clear hP
        replace O2 := O2.far ((Far.refl [] w2).alloc (.cells #[.int .u64 P.seq, .int .i64 P.mi, .int .i64 P.size, .int .i64 P.sent] 57)) (by simp)
        replace HB2 := HB2.far ((Far.refl [] w2).alloc (.cells #[.int .u64 P.seq, .int .i64 P.mi, .int .i64 P.size, .int .i64 P.sent] 57)) (by simp)
        replace B2 : Below w.heap.size w (w2.alloc (.cells #[.int .u64 P.seq, .int .i64 P.mi, .int .i64 P.size, .int .i64 P.sent] 57)) := B2.alloc B2.size _
        have d2 : (w2.alloc (.cells #[.int .u64 P.seq, .int .i64 P.mi, .int .i64 P.size, .int .i64 P.sent] 57)).cell? ⟨g, 2, none⟩ = some (.int .i64 za) := O2.cell rfl
        have d2' : w2.cell? ⟨g, 2, none⟩ = some (.int .i64 za) := (O.far G2.far hgS).cell rfl
        have hgl : g < w2.heap.size := (O.far G2.far hgS).lt
        have hkp := st_kept false s zq za
        have hf2 := st_fit hfit false zq za
        have KP : Hid (Kept s (stL false s zq za)) := hkp.1
        by_cases hE : stE s zq za = 0
        · have hnow : Hid ((stL false s zq za).now = za) := by show _ = _; rw [hkp.2, if_pos hE]
          clear hkp HB HBA BA hB O G2 O2 c0 c1 c2 c3 hzr F2
          go_wp2_with fail
          exact ⟨⟨i + 1, stL false s zq za, S2, by omega, by simp, hf2, by have := KP.out.b; push_cast; omega, by rw [KP.out.r]; exact hroom, by rw [KP.out.t]; exact htime, HB2, hS2, B2, by rw [hnow.out]⟩, by simp only [intOf]; omega⟩
        · have hnow : Hid ((stL false s zq za).now = s.now) := by show _ = _; rw [hkp.2, if_neg hE]
          clear hkp HB HBA BA hB O G2 O2 c0 c1 c2 c3 hzr F2
          go_wp2_with fail
          exact ⟨⟨i + 1, stL false s zq za, S2, by omega, by simp, hf2, by have := KP.out.b; push_cast; omega, by rw [KP.out.r]; exact hroom, by rw [KP.out.t]; exact htime, HB2, hS2, B2, by rw [hnow.out]⟩, by simp only [intOf]; omega⟩
      go_wp2_with fail
      exact ⟨⟨i + 1, s, S, by omega, by simp, hfit, by push_cast; omega, hroom, htime, HBA, hS, BA, rfl⟩, by simp only [intOf]; omega⟩
    · have hn0 := hfit.n0; have hn1 := hfit.n1; have hft0 := hfit.t0; have hft1 := hfit.t1
      have hex := exE_is hfit
      have hxn : ∀ o, exE s (s.now + timeout) = 0 → (exL s (s.now + timeout) o).l.L = [] := fun o h => by rw [← htime] at h ⊢; exact ex_none hfit o h
      rw [htime] at hex
      clear hz
      --@slow
      go_wp2_with fail
      refine (Expire_any bb S s hfit (s.now + timeout) (by omega) (by omega) _ HB).mono ?_
      rintro e w2 ⟨v, rfl, own2, ⟨oo, HB2, fit2⟩, F2⟩
      have B2 := Far.call hB hB.size F2 hS
      by_cases hmx2 : 1099511627776 < s.now + timeout
      · rw [hex, if_pos hmx2]
        clear hex
        go_wp2_with fail
        refine (booked_any _).mono ?_
        rintro e w3 ⟨rfl, B3⟩
        have B4 := B2.trans (B3.mono B2.size)
        go_wp2_with fail
        go_ret
        exact ⟨rfl, B4⟩
      have hL := hxn oo (by rw [hex, if_neg hmx2])
      have hkp := ex_kept s (s.now + timeout) oo
      rw [hex, if_neg hmx2]
      have hroom2 : (exL s (s.now + timeout) oo).l.room = room := by rw [hkp.r]; exact hroom
      generalize exL s (s.now + timeout) oo = s2 at *
      clear hex hkp own2 HB hB F2 hxn
      go_wp2_with fail
      refine (mis_any bb S s2 fit2 _ HB2).mono ?_
      rintro e w3 ⟨ao3, g3, o3, c3, rfl, hM3, B3⟩
      have HB3 := HB2.below B3
      have BW3 := B2.trans (B3.mono B2.size)
      have hl2 := fit2.len
      clear HB2 B2 B3 hM3
      obtain ⟨N, hN⟩ : ∃ N, s2.L.length = N := ⟨_, rfl⟩
      rw [hN] at hl2 ⊢
      go_wp2_with fail
      go_loopw [26, 27] (fun v26 v27 wr => ∃ (j : Nat) (s3 : Bk) (last : Int), 1 ≤ j ∧ v27 = .int .i64 j ∧ (j ≤ N ∨ j = 1) ∧ s3.L.length + (j - 1) = N ∧ Fit s3 ∧ s3.l.L = [] ∧ s3.l.room = room ∧ Bka wr bb S s3 ∧ Below w.heap.size w wr ∧ v26 = .int .i64 last ∧ ∀ x ∈ s3.L, last < x.id) (fun _ v27 _ => N - (intOf v27).toNat)
      case atStart =>
        refine ⟨1, s2, -1, Nat.le_refl _, rfl, .inr rfl, by omega, fit2, hL, hroom2, HB3, BW3, rfl, fun x hx => ?_⟩
        have := (fit2.owes x hx).r.i0; omega
      case round =>
        clear HB3 BW3 fit2 hL hroom2 hN s2
        obtain ⟨j, s3, last, hj1, rfl, hjN, hlen3, fit3, hL3, hroom3, HB4, B4, rfl, hlast⟩ := hrel
        by_cases hjn : (j : Int) < (N : Int)
        · obtain ⟨m, m', L, hmL⟩ : ∃ m m' L, s3.L = m :: m' :: L := by
            match hh : s3.L with
            | [] => rw [hh] at hlen3; simp at hlen3; omega
            | [x] => rw [hh] at hlen3; simp at hlen3; omega
            | m :: m' :: L => exact ⟨m, m', L, rfl⟩
          obtain ⟨hb, hm, hL4, hl4, hdone, hhd, hal, hR, hup⟩ := told_done fit3 hL3 hmL
          have hid := hlast m (by rw [hmL]; simp)
          have hid0 := hR.i0
          have fit4 := tk_fit fit3
          have hkp := tk_kept s3
          have T := done_any m
          rw [hdone] at T
          have hRp := hR.p1; have hRd := hR.d0; have hRh := hR.h0; have hRa := hR.a0; have hRl := hR.l0; have hRs := hR.s1; have hRx := hR.p0
          have HHD : Hid (m.hi + m.dr = m.pa) := hhd
          have HAL : Hid (m.ac + m.lo = m.se) := hal
          have e1 : (m.hi + m.dr != m.pa) = false := by simp [hhd]
          have e2 : (m.ac + m.lo != m.se) = false := by simp [hal]
          have hse : m.ac + m.lo ≤ 9437184000 := by omega
          have hpa : m.hi + m.dr ≤ 1048576 := by omega
          have hlen4 : (tkL s3).L.length + j = N := by rw [hL4]; rw [hmL] at hlen3; simp at hlen3 ⊢; omega
          have hroom4 : (tkL s3).l.room = room := by rw [hkp.r]; exact hroom3
          have hup4 : ∀ x ∈ (tkL s3).L, m.id < x.id := by rw [hL4]; exact hup
          have w1 : IntKind.i64.wrap (m.hi + m.dr) = m.hi + m.dr := wrap_in (by omega) (by omega)
          have w2 : IntKind.i64.wrap (m.ac + m.lo) = m.ac + m.lo := wrap_in (by omega) (by omega)
          clear hhd hal hmL hlast hup hL4 hkp hlen3
          go_wp2_with fail
          refine (Take_any bb S s3 fit3 _ HB4).mono ?_
          rintro e w5 ⟨rfl, HB5, F5⟩
          rw [hb, hm]
          have B5 := Far.call B4 B4.size F5 hS
          generalize tkL s3 = s4 at *
          have O := Ob.fresh w5 #[.int .i64 m.id, .int .i64 m.fr, .int .i64 m.to, .int .i64 m.se, .int .i64 m.ac, .int .i64 m.lo, .int .i64 m.pa, .int .i64 m.hi, .int .i64 m.dr, .int .i64 m.n, .int .i64 m.st, .int .i64 m.sr, .int .i64 m.tt, .int .i64 m.tr, .int .i64 m.rr] 63
          have HB6 := HB5.far ((Far.refl [] w5).alloc (.cells #[.int .i64 m.id, .int .i64 m.fr, .int .i64 m.to, .int .i64 m.se, .int .i64 m.ac, .int .i64 m.lo, .int .i64 m.pa, .int .i64 m.hi, .int .i64 m.dr, .int .i64 m.n, .int .i64 m.st, .int .i64 m.sr, .int .i64 m.tt, .int .i64 m.tr, .int .i64 m.rr] 63)) (by simp)
          have B6 : Below w.heap.size w (w5.alloc (.cells #[.int .i64 m.id, .int .i64 m.fr, .int .i64 m.to, .int .i64 m.se, .int .i64 m.ac, .int .i64 m.lo, .int .i64 m.pa, .int .i64 m.hi, .int .i64 m.dr, .int .i64 m.n, .int .i64 m.st, .int .i64 m.sr, .int .i64 m.tt, .int .i64 m.tr, .int .i64 m.rr] 63)) := B5.alloc B5.size _
          have hLM := ldM_run (m := m) O.c
          clear HB4 HB5 B4 B5 F5 hb hm
          go_wp2_with fail
          refine (T _).mono ?_
          rintro e w7 ⟨rfl, hw7⟩
          have HB7 := HB6.below hw7
          have B7 := B6.trans (hw7.mono B6.size)
          have O7 := O.far (Far.of_below hw7) (by simp)
          have m0 : w7.cell? ⟨w5.heap.size, 0, none⟩ = some (.int .i64 m.id) := O7.cell rfl
          have m3 : w7.cell? ⟨w5.heap.size, 3, none⟩ = some (.int .i64 m.se) := O7.cell rfl
          have m4 : w7.cell? ⟨w5.heap.size, 4, none⟩ = some (.int .i64 m.ac) := O7.cell rfl
          have m5 : w7.cell? ⟨w5.heap.size, 5, none⟩ = some (.int .i64 m.lo) := O7.cell rfl
          have m6 : w7.cell? ⟨w5.heap.size, 6, none⟩ = some (.int .i64 m.pa) := O7.cell rfl
          have m7 : w7.cell? ⟨w5.heap.size, 7, none⟩ = some (.int .i64 m.hi) := O7.cell rfl
          have m8 : w7.cell? ⟨w5.heap.size, 8, none⟩ = some (.int .i64 m.dr) := O7.cell rfl
          clear HB6 B6 O hLM hw7 O7 T
          go_wp2_with fail
          exact ⟨⟨j + 1, s4, m.id, by omega, by simp, by omega, by omega, fit4, hl4, hroom4, HB7, B7, rfl, hup4⟩, by simp only [intOf]; omega⟩
        · have hl3 : s3.L.length ≤ 1 := by omega
          obtain ⟨hb, hm, htl⟩ := last_not fit3 hl3
          have hfree : s3.l.room - (s3.l.L.length : Int) = room := by rw [hL3, hroom3]; simp
          go_wp2_with fail
          refine (Take_any bb S s3 fit3 _ HB4).mono ?_
          rintro e w5 ⟨rfl, HB5, F5⟩
          rw [hb, hm]
          rw [htl] at HB5
          have B5 := Far.call B4 B4.size F5 hS
          have HB6 := HB5.far ((Far.refl [] w5).alloc (.cells #[.int .i64 zeroM.id, .int .i64 zeroM.fr, .int .i64 zeroM.to, .int .i64 zeroM.se, .int .i64 zeroM.ac, .int .i64 zeroM.lo, .int .i64 zeroM.pa, .int .i64 zeroM.hi, .int .i64 zeroM.dr, .int .i64 zeroM.n, .int .i64 zeroM.st, .int .i64 zeroM.sr, .int .i64 zeroM.tt, .int .i64 zeroM.tr, .int .i64 zeroM.rr] 63)) (by simp)
          have B6 : Below w.heap.size w (w5.alloc (.cells #[.int .i64 zeroM.id, .int .i64 zeroM.fr, .int .i64 zeroM.to, .int .i64 zeroM.se, .int .i64 zeroM.ac, .int .i64 zeroM.lo, .int .i64 zeroM.pa, .int .i64 zeroM.hi, .int .i64 zeroM.dr, .int .i64 zeroM.n, .int .i64 zeroM.st, .int .i64 zeroM.sr, .int .i64 zeroM.tt, .int .i64 zeroM.tr, .int .i64 zeroM.rr] 63)) := B5.alloc B5.size _
          clear HB4 HB5 B4 B5 F5 hb hm htl hlast
          go_wp2_with fail
          refine (booked_any _).mono ?_
          rintro e w7 ⟨rfl, hw7⟩
          have HB7 := HB6.below hw7
          have B7 := B6.trans (hw7.mono B6.size)
          clear HB6 B6 hw7
          go_wp2_with fail
          refine (bfree_any bb S s3 fit3 _ HB7).mono ?_
          rintro e w8 ⟨rfl, hw8⟩
          rw [hfree]
          have HB8 := HB7.below hw8
          have B8 := B7.trans (hw8.mono B7.size)
          clear HB7 B7 hw8 hfree
          by_cases hN0 : N = 0
          · subst hN0
            go_wp2_with fail
            go_ret
            exact ⟨rfl, B8⟩
          · have hl4 : s3.L.length = 1 := by omega
            have hN1 : ¬ (N : Int) = 0 := by omega
            go_wp2_with fail
            refine (mis_any bb S s3 fit3 _ HB8).mono ?_
            rintro e w9 ⟨ao9, g9, o9, c9, rfl, hM9, hw9⟩
            rw [hl4]
            have B9 := B8.trans (hw9.mono B8.size)
            clear HB8 B8 hw9 hM9
            go_wp2_with fail
            go_ret
            exact ⟨rfl, B9⟩
      --@fast
end Go.Proofs.Ytpaalpnoppblaaa
