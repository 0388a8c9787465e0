/-
  A heap in memory, and what a call leaves of it; the program's put. No conditions but the heap's own.
-/
import Derived.Test.YtoonffglkadofaaG3
import Derived.Test.YtoonffglkadofaaG4
namespace Go.Proofs.Ytoonffglkadofaa
open Go.RowKit
set_option linter.unusedVariables false
attribute [local go_sem] Later.cell Later.frozen
/-- An append, left shut. -/
def apx (ats : Array TypeId) (ty : TypeId) (args : Array Value) : Sem Value := Builtin.append_ ats ty args
theorem append_shut (ats : Array TypeId) (ty : TypeId) (args : Array Value) : Builtin.append_ ats ty args = apx ats ty args := rfl
/-- A heap's two cells, and its row; what was at w0 and isn't the heap's own is as it was. -/
structure HS (w0 w : World) (b o base : Nat) (v0 v : Value) (n : Nat) (L : List Ent) : Prop where
  p0 : w.cell? ⟨b, o, none⟩ = some v
  p1 : w.cell? ⟨b, o + 1, none⟩ = some (.func (.func 20) #[] #[])
  f0 : w.frozen? ⟨b, o, none⟩ = false
  own : w.ownsRow base 60 5 v n (ncs L)
  far : Far (b :: v0.ownBlock.toList) w0 w
  blk : ∀ g, v.ownBlock = some g → v0.ownBlock = some g ∨ w0.heap.size ≤ g
  kc : ∀ k, k ≠ o → w.cell? ⟨b, k, none⟩ = w0.cell? ⟨b, k, none⟩
  kf : ∀ k, w.frozen? ⟨b, k, none⟩ = w0.frozen? ⟨b, k, none⟩
  b0 : b < w0.heap.size
  ne : some b ≠ v.ownBlock
  bs : base ≤ w0.heap.size
theorem HS.lt {w0 w : World} {b o base : Nat} {v0 v : Value} {n : Nat} {L : List Ent} (h : HS w0 w b o base v0 v n L) : b < w.heap.size := Nat.lt_of_lt_of_le h.b0 h.far.size
theorem HS.sz {w0 w : World} {b o base : Nat} {v0 v : Value} {n : Nat} {L : List Ent} (h : HS w0 w b o base v0 v n L) : base ≤ w.heap.size := Nat.le_trans h.bs h.far.size
theorem HS.at {w : World} {b o base : Nat} {v : Value} {n : Nat} {L : List Ent} (p0 : w.cell? ⟨b, o, none⟩ = some v) (p1 : w.cell? ⟨b, o + 1, none⟩ = some (.func (.func 20) #[] #[])) (f0 : w.frozen? ⟨b, o, none⟩ = false)
    (own : w.ownsRow base 60 5 v n (ncs L)) (b0 : b < w.heap.size) (ne : some b ≠ v.ownBlock) (bs : base ≤ w.heap.size) : HS w w b o base v v n L :=
  ⟨p0, p1, f0, own, Far.refl _ _, fun g h => .inl h, fun _ _ => rfl, fun _ => rfl, b0, ne, bs⟩
theorem HS.below {w0 w w1 : World} {b o base : Nat} {v0 v : Value} {n : Nat} {L : List Ent} (h : HS w0 w b o base v0 v n L) (hb : Below w.heap.size w w1) : HS w0 w1 b o base v0 v n L :=
  have l := h.lt
  ⟨(hb.cell (p := ⟨b, o, none⟩) l).trans h.p0, (hb.cell (p := ⟨b, o + 1, none⟩) l).trans h.p1, (hb.frozen (p := ⟨b, o, none⟩) l).trans h.f0, own_below h.own hb, h.far.below hb, h.blk,
    fun k hk => (hb.cell (p := ⟨b, k, none⟩) l).trans (h.kc k hk), fun k => (hb.frozen (p := ⟨b, k, none⟩) l).trans (h.kf k), h.b0, h.ne, h.bs⟩
theorem HS.swapped {w0 w w1 : World} {b o base g c : Nat} {v0 : Value} {n : Nat} {L M : List Ent} (h : HS w0 w b o base v0 (.slice (some ⟨g, 0, none⟩) n c) n L) (own : w1.ownsRow base 60 5 (.slice (some ⟨g, 0, none⟩) n c) n (ncs M)) (k : Far [g] w w1) :
    HS w0 w1 b o base v0 (.slice (some ⟨g, 0, none⟩) n c) n M := by
  have hg : b ≠ g := fun e => h.ne (by rw [e]; rfl)
  have e := k.block b h.lt (by simpa using hg)
  exact ⟨(World.cell?_of_block (a := ⟨b, o, none⟩) e).trans h.p0, (World.cell?_of_block (a := ⟨b, o + 1, none⟩) e).trans h.p1, (World.frozen?_of_block (a := ⟨b, o, none⟩) e).trans h.f0, own,
    h.far.then k (fun x hx => by
      simp only [List.mem_singleton] at hx
      subst hx
      rcases h.blk x rfl with h1 | h1
      · exact .inl (by rw [h1]; simp)
      · exact .inr h1), h.blk,
    fun j hj => (World.cell?_of_block (a := ⟨b, j, none⟩) e).trans (h.kc j hj), fun j => (World.frozen?_of_block (a := ⟨b, j, none⟩) e).trans (h.kf j), h.b0, h.ne, h.bs⟩
/-- The heap's row put back in the heap's own cell. -/
theorem HS.stored {w0 w w1 : World} {b o base : Nat} {v0 v u : Value} {n m : Nat} {L M : List Ent} (h : HS w0 w b o base v0 v n L) (g : w.grownBy w1 v.ownBlock) (own : w1.ownsRow base 60 5 u m (ncs M)) (hu : ∀ g, u.ownBlock = some g → v.ownBlock = some g ∨ w.heap.size ≤ g) :
    HS w0 (w1.setCell ⟨b, o, none⟩ u) b o base v0 u m M := by
  have far : some b ≠ v.ownBlock := h.ne
  have une : some b ≠ u.ownBlock := fun e => by
    rcases hu b e.symm with h1 | h1
    · exact far h1.symm
    · have := h.lt; omega
  have e := g.block b h.lt far
  have k0 : w1.cell? ⟨b, o, none⟩ = some v := (World.cell?_of_block (a := ⟨b, o, none⟩) e).trans h.p0
  refine ⟨World.cell?_setCell_same w1 _ _ k0, (World.cell?_setCell_other w1 ⟨b, o, none⟩ ⟨b, o + 1, none⟩ _ (by simp)).trans ((World.cell?_of_block (a := ⟨b, o + 1, none⟩) e).trans h.p1), (World.frozen?_setCell _ _ _ _).trans ((World.frozen?_of_block (a := ⟨b, o, none⟩) e).trans h.f0),
    Far.own ((Far.refl [b] w1).setCell (.inr (by simp)) _ _) own (fun g hg hm => une (by simp at hm; rw [hg, hm])), ?_, fun x hx => ?_, fun k hk => ?_, fun k => (World.frozen?_setCell _ _ _ _).trans ((World.frozen?_of_block (a := ⟨b, k, none⟩) e).trans (h.kf k)), h.b0, une, h.bs⟩
  · refine Far.setCell ?_ (.inr (by simp)) _ _
    refine h.far.then (Far.of_grown g) fun x hx => ?_
    have hx : v.ownBlock = some x := by cases hv : v.ownBlock <;> simp [hv] at hx; rw [hx]
    rcases h.blk x hx with h1 | h1
    · exact .inl (by rw [h1]; simp)
    · exact .inr h1
  · rcases hu x hx with h1 | h1
    · exact h.blk x h1
    · exact .inr (Nat.le_trans h.far.size h1)
  · exact (World.cell?_setCell_other w1 ⟨b, o, none⟩ ⟨b, k, none⟩ _ (fun e => hk (by simpa using e.symm))).trans ((World.cell?_of_block (a := ⟨b, k, none⟩) e).trans (h.kc k hk))
theorem HS.re {w0 w : World} {b o base : Nat} {v0 v : Value} {n : Nat} {L : List Ent} (h : HS w0 w b o base v0 v n L) : HS w w b o base v v n L := HS.at h.p0 h.p1 h.f0 h.own h.lt h.ne h.sz
theorem napp_run {w : World} {base : Nat} {v : Value} {n : Nat} {L : List Ent} (ty : TypeId) (h : w.ownsRow base 60 5 v n (ncs L)) (hb : base ≤ w.heap.size) (hn : n ≤ 1000) {g : Nat} {x : Ent} (A : At5 w g (.int .i64 x.e.a) (.int .i64 x.e.k) (.int .i64 x.e.o) (.int .u64 x.e.s) (.int .i64 x.t)) :
    ∃ ao c w', (apx #[53, 53] ty #[v, .slice (some ⟨g, 0, none⟩) 1 1]).run Try.prog w = .ok (.slice ao (n + 1) c) w' ∧ w'.ownsRow base 60 5 (.slice ao (n + 1) c) (n + 1) (ncs (L ++ [x])) ∧ w.grownBy w' v.ownBlock ∧ (∀ g, (Value.slice ao (n + 1) c).ownBlock = some g → v.ownBlock = some g ∨ w.heap.size ≤ g) := by
  obtain ⟨v', w', hr, h2, h3, h4⟩ := app_own (ty := ty) Try.underlying53 infoN rfl (by decide) (by decide) h g 1 1 (ncs [x]) rfl (fun j u hj => by
    rw [ncs_one] at hj
    match j, hj with
    | 0, hj => simp at hj; subst hj; exact A.c0
    | 1, hj => simp at hj; subst hj; exact A.c1
    | 2, hj => simp at hj; subst hj; exact A.c2
    | 3, hj => simp at hj; subst hj; exact A.c3
    | 4, hj => simp at hj; subst hj; exact A.c4
    | j + 5, hj => simp at hj) (nc_one [x]) (by omega) hb
  rw [← ncs_append] at h2
  rcases h2.2 with ⟨rfl, e⟩ | ⟨g', cap, cur, rfl, r⟩
  · omega
  · exact ⟨_, _, w', hr, h2, h3, h4⟩
theorem eapp_run {w : World} {base : Nat} {v : Value} {n : Nat} {L : List Ev} (ty : TypeId) (h : w.ownsRow base 32 4 v n (ecs L)) (hb : base ≤ w.heap.size) (hn : n ≤ 1000) {g : Nat} {x : Ev} (A : At4 w g (.int .i64 x.a) (.int .i64 x.k) (.int .i64 x.o) (.int .u64 x.s)) :
    ∃ ao c w', (apx #[40, 40] ty #[v, .slice (some ⟨g, 0, none⟩) 1 1]).run Try.prog w = .ok (.slice ao (n + 1) c) w' ∧ w'.ownsRow base 32 4 (.slice ao (n + 1) c) (n + 1) (ecs (L ++ [x])) ∧ w.grownBy w' v.ownBlock ∧ (∀ g, (Value.slice ao (n + 1) c).ownBlock = some g → v.ownBlock = some g ∨ w.heap.size ≤ g) := by
  obtain ⟨v', w', hr, h2, h3, h4⟩ := app_own (ty := ty) Try.underlying40 infoE rfl (by decide) (by decide) h g 1 1 (ecs [x]) rfl (fun j u hj => by
    rw [ecs_one] at hj
    match j, hj with
    | 0, hj => simp at hj; subst hj; exact A.c0
    | 1, hj => simp at hj; subst hj; exact A.c1
    | 2, hj => simp at hj; subst hj; exact A.c2
    | 3, hj => simp at hj; subst hj; exact A.c3
    | j + 4, hj => simp at hj) (ec_one [x]) (by omega) hb
  rw [← ecs_append] at h2
  rcases h2.2 with ⟨rfl, e⟩ | ⟨g', cap, cur, rfl, r⟩
  · omega
  · exact ⟨_, _, w', hr, h2, h3, h4⟩
section
attribute [local go_sem ↓] append_shut
set_option maxHeartbeats 4000000 in
set_option maxRecDepth 100000 in
theorem put_any (b o base n c : Nat) (ao : Option Addr) (L : List Ent) (x : Ent) (hn : n ≤ 1000) (hp : Hp L) (w : World) (H : HS w w b o base (.slice ao n c) (.slice ao n c) n L) :
    Calls Try.prog 21 #[.pointer (some ⟨b, o, none⟩), .agg #[.int .i64 x.e.a, .int .i64 x.e.k, .int .i64 x.e.o, .int .u64 x.e.s, .int .i64 x.t]] w fun e w' => e = .returned (.tuple #[]) ∧
      ∃ ao' c' M, Hp M ∧ List.Perm M (L ++ [x]) ∧ HS w w' b o base (.slice ao n c) (.slice ao' (n + 1) c') (n + 1) M := by
  have X : At5 ((w.alloc (.cells #[.int .i64 x.e.a, .int .i64 x.e.k, .int .i64 x.e.o, .int .u64 x.e.s, .int .i64 x.t] 60)).alloc (.cells #[.int .i64 x.e.a, .int .i64 x.e.k, .int .i64 x.e.o, .int .u64 x.e.s, .int .i64 x.t] 60)) (w.alloc (.cells #[.int .i64 x.e.a, .int .i64 x.e.k, .int .i64 x.e.o, .int .u64 x.e.s, .int .i64 x.t] 60)).heap.size (.int .i64 x.e.a) (.int .i64 x.e.k) (.int .i64 x.e.o) (.int .u64 x.e.s) (.int .i64 x.t) := At5.fresh _ _ _ _ _ _ _
  have H2 := ((H.below ((Below.refl _ _).alloc (Nat.le_refl _) (.cells #[.int .i64 x.e.a, .int .i64 x.e.k, .int .i64 x.e.o, .int .u64 x.e.s, .int .i64 x.t] 60))).below ((Below.refl _ _).alloc (Nat.le_refl _) (.cells #[.int .i64 x.e.a, .int .i64 x.e.k, .int .i64 x.e.o, .int .u64 x.e.s, .int .i64 x.t] 60))).below (Below.refl _ _).drew
  obtain ⟨ao', c', w1, hr, own3, hg, hv⟩ := napp_run (w := ((w.alloc (.cells #[.int .i64 x.e.a, .int .i64 x.e.k, .int .i64 x.e.o, .int .u64 x.e.s, .int .i64 x.t] 60)).alloc (.cells #[.int .i64 x.e.a, .int .i64 x.e.k, .int .i64 x.e.o, .int .u64 x.e.s, .int .i64 x.t] 60)).drew) 53 H2.own H2.sz hn (x := x) (At5.drew X)
  have H3 := H2.stored hg own3 hv
  have p0 := H.p0; have f0 := H.f0; have b0 := H.b0
  have far : some b ≠ (Value.slice ao n c).ownBlock := H.ne
  have hbl := hg.block b H2.lt far
  have k0 : w1.cell? ⟨b, o, none⟩ = some (.slice ao n c) := (World.cell?_of_block (a := ⟨b, o, none⟩) hbl).trans H2.p0
  have k1 : w1.frozen? ⟨b, o, none⟩ = false := (World.frozen?_of_block (a := ⟨b, o, none⟩) hbl).trans H2.f0
  obtain ⟨g, rfl, _, _, hnc, hcm⟩ := own_some own3 (by omega)
  have hl := own_len H.own
  have U := hp.put x
  rw [hl] at U
  simp only [World.size_alloc] at hr
  clear hp H2 own3 hg hv far hbl X
  go_enter Try.func21, Try.ntmps21
  go_wp2_with fail
  go_region
  all_goals go_upto_region 2 with fail
  refine wp_forget (fun W => HS w W b o base (.slice ao n c) (.slice (some ⟨g, 0, none⟩) (n + 1) c') (n + 1) (L ++ [x])) H3 ?_
  clear H3 hr k0 k1 p0 f0 hl
  rintro W H4
  obtain ⟨N, hN⟩ : ∃ N, Hid (N = n + 1) := ⟨_, rfl⟩
  have hN0 : 0 < N := by rw [hN.out]; omega
  replace hnc : N ≤ c' := by rw [hN.out]; exact hnc
  replace U : Up (L ++ [x]) (N - 1) := by rw [hN.out]; exact U
  have hN9 : N ≤ 1001 := by rw [hN.out]; omega
  replace H4 : HS w W b o base (.slice ao n c) (.slice (some ⟨g, 0, none⟩) N c') N (L ++ [x]) := by rw [hN.out]; exact H4
  obtain ⟨p0, p1, f0⟩ : W.cell? ⟨b, o, none⟩ = some (.slice (some ⟨g, 0, none⟩) N c') ∧ W.cell? ⟨b, o + 1, none⟩ = some (.func (.func 20) #[] #[]) ∧ W.frozen? ⟨b, o, none⟩ = false := ⟨H4.p0, H4.p1, H4.f0⟩
  go_wp2_with fail
  go_loopw [4] (fun v4 wr => ∃ (i : Nat) (M : List Ent), v4 = .int .i64 i ∧ i < N ∧ Up M i ∧ List.Perm M (L ++ [x]) ∧ HS w wr b o base (.slice ao n c) (.slice (some ⟨g, 0, none⟩) N c') N M) (fun v4 _ => (intOf v4).toNat)
  case atStart => exact ⟨N - 1, L ++ [x], by go_num, by omega, U, List.Perm.refl _, H4⟩
  case round =>
    obtain ⟨i, M, rfl, hi, UM, PM, HM⟩ := hrel
    clear p0 p1 f0 H4 U
    obtain ⟨p0, p1, own⟩ : wr.cell? ⟨b, o, none⟩ = some (.slice (some ⟨g, 0, none⟩) N c') ∧ wr.cell? ⟨b, o + 1, none⟩ = some (.func (.func 20) #[] #[]) ∧ wr.ownsRow base 60 5 (.slice (some ⟨g, 0, none⟩) N c') N (ncs M) := ⟨HM.p0, HM.p1, HM.own⟩
    have lb := HM.lt
    have lM := own_len own
    have lg : g < wr.heap.size := (own.lt g rfl).2
    by_cases h0 : 0 < i
    · obtain ⟨p, hp⟩ : ∃ p, Hid (p = (i - 1) / 2) := ⟨_, rfl⟩
      have hp1 : p < i := by have := hp.out; omega
      obtain ⟨a0, a1, a2, a3, a4⟩ := own_ent own hi
      obtain ⟨b0, b1, b2, b3, b4⟩ := own_ent own (show p < N by omega)
      obtain ⟨v, hv⟩ : ∃ v, Hid (so (pl M i) (pl M p) = v) := ⟨_, rfl⟩
      have C := fun w => sooner_any (pl M i) (pl M p) w
      rw [hv.out] at C
      have SW := fun w p0 own => swap_any b o g base N c' i p M hi (by omega) hcm hnc w p0 own
      have hmx : maxLen = 9223372036854775807 := rfl
      have hq : ((i : Int) - 1).tdiv 2 = (p : Nat) := by have := hp.out; rw [Int.tdiv_eq_ediv_of_nonneg (by omega)]; omega
      have hi2 : (i : Int) < N := by omega
      have hi3 : (p : Int) < N := by omega
      have U1 : so (pl M i) (pl M p) = false → Hp M := fun h => UM.stop (by rw [← hp.out]; exact h)
      have U2 : so (pl M i) (pl M p) = true → Up (sw M i p) p := fun h => by have := UM.step h0 (by omega) (by rw [← hp.out]; exact h); rw [← hp.out] at this; exact this
      have P2 : List.Perm (sw M i p) (L ++ [x]) := (sw_perm (by omega) (by omega)).trans PM
      rw [hv.out] at U1 U2
      generalize pl M i = y at *
      generalize pl M p = z at *
      have hne : Nonempty (Later wr) := Later.ne wr
      go_upto_region 5 with fail
      refine wp_region_later (by kernel_rfl) (by kernel_rfl) ?_
      try dsimp only [List.append]
      repeat (go_big_quiet_step ((go_at_call 20; exact Later.call _ (C _))))
      refine wpQuiet_nil ?_
      rintro w5 ⟨⟨_, hw5⟩, rfl⟩
      replace HM := HM.below hw5
      clear hw5 a0 a1 a2 a3 a4 b0 b1 b2 b3 b4 C p0 p1 own hv UM
      cases v
      · go_wp2_with fail
        (try simp only [Exit.inBlock, Exit.then])
        refine bodyPost_ret (results_none rfl _ _ _) rfl ?_
        exact ⟨rfl, _, _, M, U1 (by simp), PM, by rw [← hN.out]; exact HM⟩
      · go_wp2_with fail
        refine (SW _ HM.p0 HM.own).mono ?_
        rintro e w6 ⟨rfl, own6, far6⟩
        replace HM := HM.swapped own6 far6
        clear own6 far6
        go_wp2_with fail
        go_roundw
        case rel => exact ⟨p, sw M i p, rfl, by omega, U2 (by simp), P2, HM⟩
        case measure => simp [intOf]; omega
    · obtain rfl : i = 0 := by omega
      go_wp2_with fail
      go_end0
      exact ⟨rfl, _, _, M, UM.top, PM, by rw [← hN.out]; exact HM⟩
end
end Go.Proofs.Ytoonffglkadofaa
