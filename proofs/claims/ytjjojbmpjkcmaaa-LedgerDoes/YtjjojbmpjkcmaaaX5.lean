/-
  LedgerOnce's walk. No conditions.
-/
import Derived.Test.YtjjojbmpjkcmaaaX4
namespace Go.Proofs.Ytjjojbmpjkcmaaa
open Go.RowKit Go.Maps
set_option linter.unusedVariables false
/-- A ledger, and two rows of one's own that never meet. -/
structure Mem (B0 lb mb : Nat) (w : World) (v9 v10 : Value) (s : Lg) (S G : List Pt) : Prop where
  led : Led w lb mb s
  rs : w.ownsRow B0 36 4 v9 S.length (pcs S)
  rg : w.ownsRow B0 36 4 v10 G.length (pcs G)
  ne : ∀ g, v9.ownBlock = some g → v10.ownBlock = some g → False
  sz : B0 ≤ w.heap.size
  lb : lb < B0
  mb : mb < B0
section
variable {B0 lb mb : Nat} {w w1 : World} {v9 v10 : Value} {s s1 : Lg} {S G : List Pt}
theorem Mem.turn (h : Mem B0 lb mb w v9 v10 s S G) (F : Far [lb, mb] w w1) (H : Led w1 lb mb s1) : Mem B0 lb mb w1 v9 v10 s1 S G := by
  have h1 := h.lb; have h2 := h.mb
  have hs : ∀ b ∈ [lb, mb], b < B0 := by simp; omega
  exact ⟨H, own_far h.rs F hs, own_far h.rg F hs, h.ne, Nat.le_trans h.sz F.size, h1, h2⟩
theorem Mem.below (h : Mem B0 lb mb w v9 v10 s S G) (k : Below w.heap.size w w1) : Mem B0 lb mb w1 v9 v10 s S G :=
  h.turn ((Far.of_below k).mono (by simp)) (h.led.below k)
theorem Mem.led_grown (h : Mem B0 lb mb w v9 v10 s S G) {row : Option Nat} (k : w.grownBy w1 row) (hr : ∀ g, row = some g → B0 ≤ g) : Led w1 lb mb s := by
  have h1 := h.lb; have h2 := h.mb
  have F : Far (row.toList) w w1 := (Far.refl _ _).grown k (fun j e => by right; rw [e]; simp)
  refine h.led.far F ?_ ?_ <;> (intro hm; rw [Option.mem_toList] at hm; have := hr _ hm; omega)
theorem Mem.sent (h : Mem B0 lb mb w v9 v10 s S G) {v' : Value} {M : List Pt} (o : w1.ownsRow B0 36 4 v' (S ++ M).length (pcs (S ++ M))) (k : w.grownBy w1 v9.ownBlock) (i : ∀ g, v'.ownBlock = some g → v9.ownBlock = some g ∨ w.heap.size ≤ g) : Mem B0 lb mb w1 v' v10 s (S ++ M) G := by
  refine ⟨h.led_grown k (fun g e => (own_lt h.rs e).2), o, own_grown h.rg k (fun g e1 e2 => h.ne g e2 e1), fun g e1 e2 => ?_, Nat.le_trans h.sz k.size, h.lb, h.mb⟩
  rcases i g e1 with h1 | h1
  · exact h.ne g h1 e2
  · have := (own_lt h.rg e2).1; omega
theorem Mem.gone (h : Mem B0 lb mb w v9 v10 s S G) {v' : Value} {M : List Pt} (o : w1.ownsRow B0 36 4 v' (G ++ M).length (pcs (G ++ M))) (k : w.grownBy w1 v10.ownBlock) (i : ∀ g, v'.ownBlock = some g → v10.ownBlock = some g ∨ w.heap.size ≤ g) : Mem B0 lb mb w1 v9 v' s S (G ++ M) := by
  refine ⟨h.led_grown k (fun g e => (own_lt h.rg e).2), own_grown h.rs k (fun g e1 e2 => h.ne g e1 e2), o, fun g e1 e2 => ?_, Nat.le_trans h.sz k.size, h.lb, h.mb⟩
  rcases i g e2 with h1 | h1
  · exact h.ne g e1 h1
  · have := (own_lt h.rs e1).1; omega
theorem Ob.grown {b : Nat} {vs : List Value} {row : Option Nat} (h : Ob w b vs) (k : w.grownBy w1 row) (hr : ∀ g, row = some g → g < b) : Ob w1 b vs := by
  have F : Far (row.toList) w w1 := (Far.refl _ _).grown k (fun j e => by right; rw [e]; simp)
  exact h.far F (fun hm => by rw [Option.mem_toList] at hm; have := hr _ hm; omega)
theorem below_grown {W : World} {B : Nat} (hb : Below B W w) (hB : B ≤ w.heap.size) (h0 : B ≤ B0) {v : Value} {n : Nat} {xs : List Value} (o : w.ownsRow B0 36 4 v n xs) (k : w.grownBy w1 v.ownBlock) : Below B W w1 :=
  hb.trans ⟨k.os, k.tape, k.output, k.size, fun i hi => k.block i (by omega) (fun e => by have := (own_lt o e.symm).2; omega)⟩
end
set_option maxRecDepth 8000 in
set_option maxHeartbeats 2000000 in
theorem once_walk (room first : Int) (ao : Option Addr) (n c : Nat) (Z : Nat → St) (r0 : -9223372036854775808 ≤ room) (r1 : room ≤ 9223372036854775807) (f0 : 0 ≤ first) (f1 : first ≤ 18446744073709551615) (w : World) (hz : Steps w ao n c Z) :
    Calls Try.prog 4 #[.int .i64 room, .int .u64 first, .slice ao n c] w fun e w' => e = .returned (.bool true) ∧ Below w.heap.size w w' := by
  have hcap := hz.cap; have hmax := hz.max
  have hmx : maxLen = 9223372036854775807 := rfl
  go_enter Try.func4, Try.ntmps4
  by_cases hr : room < 1 ∨ 4096 < room
  · go_wp2_with fail
    refine (new_no room first hr _).mono ?_
    rintro e w1 ⟨rfl, B1⟩
    go_wp2_with fail
    refine (entered_any _).mono ?_
    rintro e w2 ⟨rfl, B2⟩
    have B3 := B1.trans (B2.mono B1.size)
    go_wp2_with fail
    go_ret
    exact ⟨rfl, B3⟩
  · go_wp2_with fail
    refine (new_yes room first (by omega) (by omega) f0 f1 _).mono ?_
    rintro e w1 ⟨lb, mb, rfl, H1, hl, hm, B1⟩
    have ok1 : (⟨room, first, first, first, 0, []⟩ : Lg).ok := new_ok room first (by omega) (by omega) f0 f1
    by_cases hn : 150 < (n : Int)
    · go_wp2_with fail
      refine (entered_any _).mono ?_
      rintro e w2 ⟨rfl, B2⟩
      have B3 := B1.trans (B2.mono B1.size)
      go_wp2_with fail
      go_ret
      exact ⟨rfl, B3⟩
    have hS : ∀ b ∈ [lb, mb], w.heap.size ≤ b := by simp; omega
    have hB0 : w.heap.size ≤ w1.heap.size := B1.size
    have T1 : Told first ⟨room, first, first, first, 0, []⟩ [] [] := ⟨ok1, rfl, List.Perm.refl _, fun j h => absurd h (Nat.not_lt_zero _), by show first = first + ((0 : Nat) : Int); omega⟩
    have M1 : Mem w1.heap.size lb mb w1 (.slice none 0 0) (.slice none 0 0) ⟨room, first, first, first, 0, []⟩ [] [] :=
      ⟨H1, World.ownsRow_nil _ _ _ _, World.ownsRow_nil _ _ _ _, fun g h => by simp [Value.ownBlock] at h, Nat.le_refl _, H1.ob.lt, H1.map.lt⟩
    generalize w1.heap.size = B0 at *
    go_wp2_with fail
    go_loopw [9, 10, 11] (fun v9 v10 vi wr => ∃ (i : Nat) (s : Lg) (S G : List Pt), i ≤ n ∧ vi = .int .i64 i ∧ Told first s S G ∧ Mem B0 lb mb wr v9 v10 s S G ∧ S.length ≤ i ∧ Below w.heap.size w wr) (fun _ _ vi _ => n - (intOf vi).toNat)
    case atStart => exact ⟨0, _, [], [], Nat.zero_le _, rfl, T1, M1, Nat.le_refl _, B1⟩
    case round =>
      obtain ⟨i, s, S, G, hi, rfl, T, M, hSi, hB⟩ := hrel
      have hlen : G.length + s.L.length = S.length := by have := T.perm.length_eq; simpa using this
      by_cases hin : i < n
      · have hzr := hz.below hB
        obtain ⟨b, o, rfl, hbl, hc⟩ := hzr.at' (by omega)
        have hbd := hzr.bd i
        obtain ⟨c0, c1, c2, c3, c4⟩ := hc i hin
        clear hc hzr
        generalize Z i = z at *
        obtain ⟨⟨k0, k1⟩, ⟨m0, m1⟩, ⟨s0, s1⟩, ⟨a0, a1⟩, q0, q1⟩ := hbd
        obtain ⟨zk, zm, zs, za, zq⟩ := z
        simp only at *
        have hlb := M.led.ob.lt
        have hmb := M.led.map.lt
        have O := Ob.fresh wr #[.int .i64 zk, .int .i64 zm, .int .i64 zs, .int .i64 za, .int .u64 zq] 32
        have MA := M.below ((Below.refl _ wr).alloc (Nat.le_refl _) (.cells #[.int .i64 zk, .int .i64 zm, .int .i64 zs, .int .i64 za, .int .u64 zq] 32))
        have BA : Below w.heap.size w (wr.alloc (.cells #[.int .i64 zk, .int .i64 zm, .int .i64 zs, .int .i64 za, .int .u64 zq] 32)) := hB.alloc hB.size _
        have hgl : wr.heap.size ∉ [lb, mb] := by simp; omega
        by_cases hk0 : zk = 0
        · subst hk0
          go_wp2_with fail
          generalize (wr.alloc (.cells #[.int .i64 0, .int .i64 zm, .int .i64 zs, .int .i64 za, .int .u64 zq] 32)) = W1 at *
          generalize wr.heap.size = g at *
          refine (send_any lb mb s T.ok _ _ _ _ MA.led).mono ?_
          rintro e w2 ⟨rfl, H2, F⟩
          replace O := O.far F hgl
          have M2 := MA.turn F H2
          have B2 := Far.call BA BA.size F hS
          have d1 : w2.cell? ⟨g, 1, none⟩ = some (.int .i64 zm) := O.cell rfl
          have d2 : w2.cell? ⟨g, 2, none⟩ = some (.int .i64 zs) := O.cell rfl
          have d3 : w2.cell? ⟨g, 3, none⟩ = some (.int .i64 za) := O.cell rfl
          have g2 : g < w2.heap.size := O.lt
          clear F MA BA O M c0 c1 c2 c3 c4 hB
          by_cases hrf : refv s zm zs za = 0
          · have T2 := T.send hrf
            rw [hrf]
            clear hrf H2 T
            generalize seqv s zm zs za = sv at *
            generalize sentL s zm zs za = s2 at *
            have MB := M2.below ((Below.refl _ w2).alloc (Nat.le_refl _) (.cells #[.int .u64 sv, .int .i64 zm, .int .i64 zs, .int .i64 za] 36))
            have BB : Below w.heap.size w (w2.alloc (.cells #[.int .u64 sv, .int .i64 zm, .int .i64 zs, .int .i64 za] 36)) := B2.alloc B2.size _
            have ol := own_lit w2 ⟨sv, zm, zs, za⟩ B0 M2.sz
            go_wp2_with (at_builtin; refine wpL_append rfl _ _ rfl rfl rfl MB.rs ol MB.sz (by omega) ?_; intro v' w3 own' gr inf)
            have M3 := MB.sent (M := [⟨sv, zm, zs, za⟩]) (by simpa using own') gr inf
            have B3 := below_grown BB BB.size hB0 MB.rs gr
            exact ⟨⟨i + 1, s2, S ++ [⟨sv, zm, zs, za⟩], G, by omega, by simp, T2, M3, by simp; omega, B3⟩, by simp only [intOf]; omega⟩
          · have e2 := T.not hrf
            rw [e2] at M2 H2
            clear e2
            generalize seqv s zm zs za = sv at *
            generalize refv s zm zs za = rv at *
            go_wp2_with fail
            exact ⟨⟨i + 1, s, S, G, by omega, by simp, T, M2, by omega, B2⟩, by simp only [intOf]; omega⟩
        by_cases hk1 : zk = 1
        · subst hk1
          go_wp2_with fail
          have hgv : ∀ x, u10.ownBlock = some x → x < wr.heap.size := fun x e => (own_lt M.rg e).1
          generalize (wr.alloc (.cells #[.int .i64 1, .int .i64 zm, .int .i64 zs, .int .i64 za, .int .u64 zq] 32)) = W1 at *
          generalize wr.heap.size = g at *
          refine (take_any lb mb s T.ok _ q0 q1 _ MA.led).mono ?_
          rintro e w2 ⟨rfl, H2, F⟩
          replace O := O.far F hgl
          have M2 := MA.turn F H2
          have B2 := Far.call BA BA.size F hS
          have hgv2 : ∀ x, u10.ownBlock = some x → x < w2.heap.size := fun x e => (own_lt M2.rg e).1
          have d4 : w2.cell? ⟨g, 4, none⟩ = some (.int .u64 zq) := O.cell rfl
          have g2 : g < w2.heap.size := O.lt
          clear F MA BA M c0 c1 c2 c3 c4 hB
          by_cases hrf : tkv s zq = 0
          · obtain ⟨T2, ep, esz⟩ := T.take hrf
            have hlt : G.length + 1 ≤ 1000000 := by omega
            rw [hrf]
            clear hrf H2 T
            generalize tkp s zq = p at *
            generalize takenL s zq = s2 at *
            obtain ⟨ps, pm, pz, pt⟩ := p
            simp only at ep esz ⊢
            subst ep
            have MB := M2.below ((Below.refl _ w2).alloc (Nat.le_refl _) (.cells #[.int .u64 ps, .int .i64 pm, .int .i64 pz, .int .i64 pt] 36))
            have BB : Below w.heap.size w (w2.alloc (.cells #[.int .u64 ps, .int .i64 pm, .int .i64 pz, .int .i64 pt] 36)) := B2.alloc B2.size _
            have MC := MB.below ((Below.refl _ _).alloc (Nat.le_refl _) (.cells #[.int .u64 ps, .int .i64 pm, .int .i64 pz, .int .i64 pt] 36))
            have BC : Below w.heap.size w ((w2.alloc (.cells #[.int .u64 ps, .int .i64 pm, .int .i64 pz, .int .i64 pt] 36)).alloc (.cells #[.int .u64 ps, .int .i64 pm, .int .i64 pz, .int .i64 pt] 36)) := BB.alloc BB.size _
            have ol := own_lit (w2.alloc (.cells #[.int .u64 ps, .int .i64 pm, .int .i64 pz, .int .i64 pt] 36)) ⟨ps, pm, pz, pt⟩ B0 MB.sz
            rw [World.size_alloc] at ol
            have P := (Ob.fresh w2 #[.int .u64 ps, .int .i64 pm, .int .i64 pz, .int .i64 pt] 36).far ((Far.refl [] _).alloc (.cells #[.int .u64 ps, .int .i64 pm, .int .i64 pz, .int .i64 pt] 36)) (by simp)
            have O2 := O.far (((Far.refl [] w2).alloc (.cells #[.int .u64 ps, .int .i64 pm, .int .i64 pz, .int .i64 pt] 36)).alloc (.cells #[.int .u64 ps, .int .i64 pm, .int .i64 pz, .int .i64 pt] 36)) (by simp)
            have EQ : ∀ w, (Op.equalIn 10000 36 (.agg #[.int .u64 ps, .int .i64 pm, .int .i64 pz, .int .i64 pt]) (.agg #[.int .u64 0, .int .i64 0, .int .i64 0, .int .i64 0])).run Try.prog w = .ok false w := fun w => by
              have := eqPt ⟨ps, pm, pz, pt⟩ ⟨0, 0, 0, 0⟩ w
              rw [show decide ((⟨ps, pm, pz, pt⟩ : Pt) = ⟨0, 0, 0, 0⟩) = false from decide_eq_false (fun e => by injection e; omega)] at this
              exact this
            clear O
            go_wp2_with (at_builtin; refine wpL_append rfl _ _ rfl rfl rfl MC.rg ol MC.sz hlt ?_; intro v' w3 own' gr inf; have P3 := P.grown gr hgv2; have O3 := O2.grown gr hgv; have e0 : w3.cell? ⟨w2.heap.size, 0, none⟩ = some (.int .u64 ps) := P3.cell rfl; have e1 : w3.cell? ⟨w2.heap.size, 1, none⟩ = some (.int .i64 pm) := P3.cell rfl; have e2 : w3.cell? ⟨w2.heap.size, 2, none⟩ = some (.int .i64 pz) := P3.cell rfl; have e3 : w3.cell? ⟨w2.heap.size, 3, none⟩ = some (.int .i64 pt) := P3.cell rfl; have e4 : w3.cell? ⟨g, 4, none⟩ = some (.int .u64 ps) := O3.cell rfl)
            have M3 := MC.gone (M := [⟨ps, pm, pz, pt⟩]) (by simpa using own') gr inf
            have B3 := below_grown BC BC.size hB0 MC.rg gr
            exact ⟨⟨i + 1, s2, S, G ++ [⟨ps, pm, pz, pt⟩], by omega, by simp, T2, M3, by omega, B3⟩, by simp only [intOf]; omega⟩
          · obtain ⟨e2, e3⟩ := tk_not hrf
            rw [e2] at M2 H2
            rw [e3]
            clear e2 e3 O
            generalize tkv s zq = rv at *
            have EQ : ∀ w, (Op.equalIn 10000 36 (.agg #[.int .u64 0, .int .i64 0, .int .i64 0, .int .i64 0]) (.agg #[.int .u64 0, .int .i64 0, .int .i64 0, .int .i64 0])).run Try.prog w = .ok true w := fun w => eqPt ⟨0, 0, 0, 0⟩ ⟨0, 0, 0, 0⟩ w
            have MB := M2.below ((Below.refl _ w2).alloc (Nat.le_refl _) (.cells #[.int .u64 0, .int .i64 0, .int .i64 0, .int .i64 0] 36))
            have BB : Below w.heap.size w (w2.alloc (.cells #[.int .u64 0, .int .i64 0, .int .i64 0, .int .i64 0] 36)) := B2.alloc B2.size _
            go_wp2_with fail
            exact ⟨⟨i + 1, s, S, G, by omega, by simp, T, MB, by omega, BB⟩, by simp only [intOf]; omega⟩
        · go_wp2_with fail
          have MAl := MA
          generalize (wr.alloc (.cells #[.int .i64 zk, .int .i64 zm, .int .i64 zs, .int .i64 za, .int .u64 zq] 32)) = W1 at *
          generalize wr.heap.size = g at *
          refine (expire_any lb mb s T.ok za zs a0 a1 s0 s1 _ MA.led).mono ?_
          rintro e w2 ⟨v, rfl, own, ⟨o', H2, ok2⟩, F⟩
          have M2 := MA.turn F H2
          have B2 := Far.call BA BA.size F hS
          have T2 := T.over (isover za zs) ok2
          have hft := filter_two (isover za zs) s.L
          have hlt : G.length + (s.L.filter (isover za zs)).length ≤ 1000000 := by omega
          clear F MA MAl BA O M c0 c1 c2 c3 c4 hB H2 hft
          generalize s.L.filter (isover za zs) = E at *
          go_wp2_with (at_builtin; refine wpL_append rfl _ _ rfl rfl rfl M2.rg own M2.sz hlt ?_; intro v' w3 own' gr inf)
          have M3 := M2.gone (M := E) (by simpa using own') gr inf
          have B3 := below_grown B2 B2.size hB0 M2.rg gr
          exact ⟨⟨i + 1, _, S, G ++ E, by omega, by simp, T2, M3, by omega, B3⟩, by simp only [intOf]; omega⟩
      · have hie : i = n := by omega
        go_wp2_with fail
        refine (open_any lb mb s T.ok _ M.led).mono ?_
        rintro e w2 ⟨v, rfl, own, B⟩
        have M2 := M.below B
        have B2 := hB.trans (B.mono hB.size)
        have hlt : G.length + s.L.length ≤ 1000000 := by omega
        clear B M hB
        have hA : (G ++ s.L).length = S.length := T.perm.length_eq
        have hone : ∀ j (hj : j < S.length), (G ++ s.L).count S[j] = 1 := fun j hj => T.once hj
        have hseq := T.at'
        have hfit : first + (S.length : Int) ≤ 18446744073709551615 := by have := T.next; have := T.ok.n1; omega
        obtain ⟨asn, cs, rfl, _⟩ := Pks.own M2.rs
        go_wp2_with (at_builtin; refine wpL_append rfl _ _ rfl rfl rfl M2.rg own M2.sz hlt ?_; intro v' w3 own' gr inf; have M3 := M2.gone (M := s.L) (by simpa using own') gr inf; have rg := M3.rg; rw [hA] at rg; obtain ⟨ag, cg, rfl, PG⟩ := Pks.own rg)
        have B3 := below_grown B2 B2.size hB0 M2.rg gr
        have PS : Pks w3 asn S.length cs S := by
          obtain ⟨_, _, e, h⟩ := Pks.own M3.rs
          cases e
          exact h
        have hSn : S.length ≤ n := by omega
        clear own' gr inf M3 rg M2 own B2 hA T T1 M1 ok1 H1
        generalize G ++ s.L = A at *
        obtain ⟨N, hN⟩ : ∃ N, S.length = N := ⟨_, rfl⟩
        rw [hN] at PG PS hfit hSn ⊢
        have hgl := PG.len
        have hsl := PS.len
        have hgc := PG.cap; have hgm := PG.max; have hsc := PS.cap; have hsm := PS.max
        have HN : Hid (S.length = N) := hN
        clear hN hlen hlt hSi
        replace hsl : Hid (S.length = N) := hsl
        replace hgl : Hid (A.length = N) := hgl
        go_wp2_with fail
        go_loopw [17] (fun vj wr => ∃ j : Nat, j ≤ N ∧ vj = .int .i64 j ∧ Below w3.heap.size w3 wr) (fun vj _ => N - (intOf vj).toNat)
        case atStart => exact ⟨0, Nat.zero_le _, rfl, Below.refl _ _⟩
        case round =>
          obtain ⟨j, hj, rfl, hbj⟩ := hrel
          by_cases hjn : j < N
          · have hjS : j < S.length := by have := HN.out; omega
            have h1 := hone j hjS
            have h2 := hseq j hjS
            obtain ⟨q, hq⟩ : ∃ q, S[j] = q := ⟨_, rfl⟩
            rw [hq] at h1 h2
            have HQ : Hid (S[j] = q) := hq
            have H2 : Hid (q.seq = first + j) := h2
            clear hq h2
            go_wp2_with fail
            go_loopw [18, 19] (fun vm vk wr => ∃ k : Nat, k ≤ N ∧ vk = .int .i64 k ∧ vm = .int .i64 ((A.take k).count q : Nat) ∧ Below w3.heap.size w3 wr) (fun _ vk _ => N - (intOf vk).toNat)
            case atStart => exact ⟨0, Nat.zero_le _, rfl, by simp, hbj⟩
            case round =>
              obtain ⟨k, hk, rfl, rfl, hbk⟩ := hrel
              by_cases hkn : k < N
              · have hkA : k < A.length := by have := hgl.out; omega
                obtain ⟨b, rfl, hbl, hc⟩ := (PG.below hbk).at' (by omega)
                obtain ⟨b', rfl, hbl', hc'⟩ := (PS.below hbk).at' (by omega)
                obtain ⟨a0, a1, a2, a3⟩ := hc k hkA
                obtain ⟨b0, b1, b2, b3⟩ := hc' j hjS
                have hst := count_step hkA q
                obtain ⟨p, hp⟩ : ∃ p, A[k] = p := ⟨_, rfl⟩
                rw [hp] at a0 a1 a2 a3 hst
                rw [HQ.out] at b0 b1 b2 b3
                have hcnt : (A.take k).count q ≤ N := Nat.le_trans List.count_le_length (by rw [List.length_take]; omega)
                clear hc hc' hp
                have EQ := fun w => eqPt p q w
                have hb2 : ∀ m, Below w3.heap.size w3 (wr.drewN m) := fun m => hbk.trans ⟨rfl, rfl, rfl, Nat.le_refl _, fun _ _ => rfl⟩
                by_cases hpq : p = q
                · have hd : decide (p = q) = true := by simp [hpq]
                  simp only [hd] at EQ
                  rw [if_pos hpq] at hst
                  have HST : Hid ((A.take (k + 1)).count q = (A.take k).count q + 1) := hst
                  generalize (A.take k).count q = m at *
                  clear hst
                  go_wp2_with fail
                  go_quiet (fail)
                  go_wp2_with fail
                  exact ⟨⟨k + 1, by omega, by simp, by rw [HST.out]; simp, hb2 _⟩, by simp only [intOf]; omega⟩
                · have hd : decide (p = q) = false := by simp [hpq]
                  simp only [hd] at EQ
                  rw [if_neg hpq] at hst
                  have HST : Hid ((A.take (k + 1)).count q = (A.take k).count q + 0) := hst
                  generalize (A.take k).count q = m at *
                  clear hst
                  go_wp2_with fail
                  go_quiet (fail)
                  go_wp2_with fail
                  exact ⟨⟨k + 1, by omega, by simp, by rw [HST.out]; simp, hb2 _⟩, by simp only [intOf]; omega⟩
              · have hkN : k = N := by omega
                have hm1 : (A.take k).count q = 1 := by rw [hkN, List.take_of_length_le (by have := hgl.out; omega)]; exact h1
                rw [hm1]
                obtain ⟨b', rfl, hbl', hc'⟩ := (PS.below hbk).at' (by omega)
                have b0 := (hc' j hjS).1
                rw [HQ.out, H2.out] at b0
                have hfj : first + (j : Int) ≤ 18446744073709551615 := by omega
                clear hc' hm1 h1
                go_wp2_with fail
                exact ⟨⟨j + 1, by omega, by simp, hbk⟩, by simp only [intOf]; omega⟩
          · have hjN : j = N := by omega
            have BJ := B3.trans (hbj.mono B3.size)
            go_wp2_with fail
            refine (entered_any _).mono ?_
            rintro e w7 ⟨rfl, B⟩
            have B7 := BJ.trans (B.mono BJ.size)
            go_wp2_with fail
            go_ret
            exact ⟨rfl, B7⟩
end Go.Proofs.Ytjjojbmpjkcmaaa
