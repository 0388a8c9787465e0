/-
  The program's take. No conditions but the heap's own.
-/
import Derived.Test.YtoonffglkadofaaG6
namespace Go.Proofs.Ytoonffglkadofaa
open Go.RowKit
set_option linter.unusedVariables false
theorem HS.other {w0 w w1 : World} {b o base : Nat} {v0 v : Value} {n : Nat} {L : List Ent} {T : List Nat} (h : HS w0 w b o base v0 v n L) (k : Far T w w1) (hb : b ∉ T) (hv : ∀ g, v.ownBlock = some g → g ∉ T) (hT : ∀ x ∈ T, w0.heap.size ≤ x) : HS w0 w1 b o base v0 v n L := by
  have e := k.block b h.lt hb
  exact ⟨(World.cell?_of_block (a := ⟨b, o, none⟩) e).trans h.p0, (World.cell?_of_block (a := ⟨b, o + 1, none⟩) e).trans h.p1, (World.frozen?_of_block (a := ⟨b, o, none⟩) e).trans h.f0, k.own h.own hv,
    h.far.then k (fun x hx => .inr (hT x hx)), h.blk,
    fun j hj => (World.cell?_of_block (a := ⟨b, j, none⟩) e).trans (h.kc j hj), fun j => (World.frozen?_of_block (a := ⟨b, j, none⟩) e).trans (h.kf j), h.b0, h.ne, h.bs⟩
theorem Far.grown' {w w1 : World} {g : Nat} (k : Far [g] w w1) : w.grownBy w1 (some g) := ⟨k.os, k.tape, k.output, k.size, fun i hi hn => k.block i hi (by simpa using hn)⟩
/-- Five cells of a block. -/
def _root_.Go.World.put5 (w : World) (b : Nat) (x : Ent) : World := ((((w.setCell ⟨b, 0, none⟩ (.int .i64 x.e.a)).setCell ⟨b, 1, none⟩ (.int .i64 x.e.k)).setCell ⟨b, 2, none⟩ (.int .i64 x.e.o)).setCell ⟨b, 3, none⟩ (.int .u64 x.e.s)).setCell ⟨b, 4, none⟩ (.int .i64 x.t)
theorem Far.put5 {S : List Nat} {w w1 : World} (h : Far S w w1) {b : Nat} (hb : w.heap.size ≤ b ∨ b ∈ S) (x : Ent) : Far S w (w1.put5 b x) := ((((h.setCell hb _ _).setCell hb _ _).setCell hb _ _).setCell hb _ _).setCell hb _ _
theorem At5.far {S : List Nat} {w w1 : World} {b : Nat} {x0 x1 x2 x3 x4 : Value} (h : At5 w b x0 x1 x2 x3 x4) (k : Far S w w1) (hb : b ∉ S) : At5 w1 b x0 x1 x2 x3 x4 := k.at5 h hb
set_option maxHeartbeats 4000000 in
set_option maxRecDepth 100000 in
theorem take_any (b o base g n c : Nat) (L : List Ent) (hn : n ≤ 1000) (hp : Hp L) (w : World) (H : HS w w b o base (.slice (some ⟨g, 0, none⟩) (n + 1) c) (.slice (some ⟨g, 0, none⟩) (n + 1) c) (n + 1) L) :
    Calls Try.prog 22 #[.pointer (some ⟨b, o, none⟩)] w fun e w' => e = .returned (.agg #[.int .i64 ((pl L 0)).e.a, .int .i64 ((pl L 0)).e.k, .int .i64 ((pl L 0)).e.o, .int .u64 ((pl L 0)).e.s, .int .i64 ((pl L 0)).t]) ∧
      ∃ M, Hp M ∧ List.Perm M (dl L) ∧ HS w w' b o base (.slice (some ⟨g, 0, none⟩) (n + 1) c) (.slice (some ⟨g, 0, none⟩) n c) n M := by
  obtain ⟨w0, hw0⟩ : ∃ w0, Hid (w0 = w) := ⟨_, rfl⟩
  obtain ⟨p0, p1, f0⟩ : w.cell? ⟨b, o, none⟩ = some (.slice (some ⟨g, 0, none⟩) (n + 1) c) ∧ w.cell? ⟨b, o + 1, none⟩ = some (.func (.func 20) #[] #[]) ∧ w.frozen? ⟨b, o, none⟩ = false := ⟨H.p0, H.p1, H.f0⟩
  have hb := H.b0; have hgw : g < w.heap.size := (H.own.lt g rfl).2; have hgb : base ≤ g := (H.own.lt g rfl).1; have hbg : b ≠ g := fun e => H.ne (by rw [e]; rfl)
  have hl := own_len H.own
  obtain ⟨hnc, hcm⟩ : n + 1 ≤ c ∧ c ≤ maxLen := by obtain ⟨_, _, _, _, h1, h2⟩ := own_some H.own (by omega); exact ⟨h1, h2⟩
  have hmx : maxLen = 9223372036854775807 := rfl
  obtain ⟨a0, a1, a2, a3, a4⟩ := own_ent H.own (i := 0) (by omega)
  simp only [Nat.zero_mul, Nat.zero_add] at a0 a1 a2 a3 a4
  have hdl : Hid (dl L = (sw L 0 n).take n) := by show _ = _; unfold dl; rw [hl]; rfl
  have D0 : Dn (dl L) 0 := hp.cut
  obtain ⟨x, hx⟩ : ∃ x, Hid (pl L 0 = x) := ⟨_, rfl⟩
  rw [hx.out] at a0 a1 a2 a3 a4
  have SW0 : ∀ w, HS w0 w b o base (.slice (some ⟨g, 0, none⟩) (n + 1) c) (.slice (some ⟨g, 0, none⟩) (n + 1) c) (n + 1) L → Calls Try.prog 26 #[.pointer (some ⟨b, o, none⟩), .int .i64 0, .int .i64 n] w fun e w' => e = .returned (.tuple #[]) ∧
      w'.ownsRow base 60 5 (.slice (some ⟨g, 0, none⟩) (n + 1) c) (n + 1) (ncs (sw L 0 n)) ∧ Far [g] w w' := fun w H => swap_any b o g base (n + 1) c 0 n L (by omega) (by omega) hcm hnc w H.p0 H.own
  have FA0 : ∀ w, HS w0 w b o base (.slice (some ⟨g, 0, none⟩) (n + 1) c) (.slice (some ⟨g, 0, none⟩) n c) n (dl L) → Calls Try.prog 28 #[.pointer (some ⟨b, o, none⟩), .int .i64 0] w fun e w' => e = .returned (.int .i64 (fa (dl L) 0 : Nat)) ∧ Below w.heap.size w w' :=
    fun w H => firstAt_any b o base n c 0 _ (dl L) (by omega) (by omega) w H.p0 H.p1 H.lt H.own
  have DE := fun w own => delete_any base g n c (sw L 0 n) (by omega) hcm hnc w own
  rw [← hdl.out] at DE
  have hdll : (dl L).length = n := by rw [dl_len]; omega
  clear hdl
  generalize hdD : dl L = D at *
  have HD : Hid (dl L = D) := hdD
  clear hdD
  have H0 : HS w0 w b o base (.slice (some ⟨g, 0, none⟩) (n + 1) c) (.slice (some ⟨g, 0, none⟩) (n + 1) c) (n + 1) L := by rw [hw0.out]; exact H
  have hgw0 : g < w0.heap.size := by rw [hw0.out]; exact hgw
  have hbw0 : b < w0.heap.size := by rw [hw0.out]; exact hb
  have hsz : w0.heap.size = w.heap.size := by rw [hw0.out]
  have hn1 : (0 : Int) < (n : Int) + 1 := by omega
  go_enter Try.func22, Try.ntmps22
  go_wp2_with fail
  go_region
  all_goals go_upto_region 2 with fail
  refine wp_forget (fun W => HS w0 W b o base (.slice (some ⟨g, 0, none⟩) (n + 1) c) (.slice (some ⟨g, 0, none⟩) (n + 1) c) (n + 1) L ∧ At5 W w.heap.size (.int .i64 0) (.int .i64 0) (.int .i64 0) (.int .u64 0) (.int .i64 0) ∧ At5 W (w.heap.size + 1) (.int .i64 x.e.a) (.int .i64 x.e.k) (.int .i64 x.e.o) (.int .u64 x.e.s) (.int .i64 x.t)) ⟨H0.below (by go_grown), by constructor <;> simp [go_sem], by constructor <;> simp [go_sem]⟩ ?_
  clear p0 p1 f0 a0 a1 a2 a3 a4 H0
  rintro W ⟨H1, R, X⟩
  go_wp2_with fail
  refine (SW0 _ H1).mono ?_
  rintro e w2 ⟨rfl, own2, far2⟩
  replace H1 := H1.swapped own2 far2
  replace R := R.far far2 (by simp; omega)
  replace X := X.far far2 (by simp; omega)
  clear own2 far2 SW0
  obtain ⟨p0, p1, f0⟩ : w2.cell? ⟨b, o, none⟩ = some (.slice (some ⟨g, 0, none⟩) (n + 1) c) ∧ w2.cell? ⟨b, o + 1, none⟩ = some (.func (.func 20) #[] #[]) ∧ w2.frozen? ⟨b, o, none⟩ = false := ⟨H1.p0, H1.p1, H1.f0⟩
  go_wp2_with fail
  refine (DE _ H1.own).mono ?_
  rintro e w3 ⟨rfl, own3, far3⟩
  have H2 := H1.stored (u := .slice (some ⟨g, 0, none⟩) n c) far3.grown' own3 (fun k hk => .inl hk)
  replace R := (R.far far3 (by simp; omega)).other (a := ⟨b, o, none⟩) (by simp; omega) (.slice (some ⟨g, 0, none⟩) n c)
  replace X := (X.far far3 (by simp; omega)).other (a := ⟨b, o, none⟩) (by simp; omega) (.slice (some ⟨g, 0, none⟩) n c)
  have e3 := far3.block b H1.lt (by simp; omega)
  replace p0 := (World.cell?_of_block (a := ⟨b, o, none⟩) e3).trans p0
  replace f0 := (World.frozen?_of_block (a := ⟨b, o, none⟩) e3).trans f0
  clear own3 far3 e3 DE H1 p1
  go_wp2_with fail
  refine (FA0 _ H2).mono ?_
  rintro e w4 ⟨rfl, hw4⟩
  replace H2 := H2.below hw4
  replace R := At5.of hw4 R
  replace X := At5.of hw4 X
  clear hw4 p0 f0 FA0
  go_wp2_with fail
  go_loopw [5, 6] (fun v5 v6 wr => ∃ (i : Nat) (M : List Ent), v5 = .int .i64 i ∧ v6 = .int .i64 (fa M i : Nat) ∧ (i < n ∨ i = 0) ∧ Dn M i ∧ List.Perm M D ∧ HS w0 wr b o base (.slice (some ⟨g, 0, none⟩) (n + 1) c) (.slice (some ⟨g, 0, none⟩) n c) n M ∧ At5 wr w.heap.size (.int .i64 0) (.int .i64 0) (.int .i64 0) (.int .u64 0) (.int .i64 0) ∧ At5 wr (w.heap.size + 1) (.int .i64 x.e.a) (.int .i64 x.e.k) (.int .i64 x.e.o) (.int .u64 x.e.s) (.int .i64 x.t)) (fun v5 _ _ => n - (intOf v5).toNat)
  case atStart => exact ⟨0, D, rfl, rfl, .inr rfl, D0, List.Perm.refl _, H2, R, X⟩
  case round =>
    obtain ⟨i, M, rfl, rfl, hi, DM, PM, HM, R', X'⟩ := hrel
    clear H2 R X D0
    have hlM : M.length = n := own_len HM.own
    have far5 : Far [w.heap.size] wr (wr.put5 w.heap.size x) := (Far.refl _ _).put5 (.inr (by simp)) x
    by_cases he : fa M i = i
    · have hp2 := DM.stop he
      have HF := HM.other far5 (by simp; omega) (fun k hk => by
        have hk2 : g = k := by simpa [Value.ownBlock] using hk
        simp; omega) (fun k hk => by simp at hk; omega)
      obtain ⟨r0, r1, r2, r3, r4⟩ := R'.outs (.int .i64 x.e.a) (.int .i64 x.e.k) (.int .i64 x.e.o) (.int .u64 x.e.s) (.int .i64 x.t)
      obtain ⟨s0, s1, s2, s3, s4, sa, sb, sc, sd, se, sl⟩ := id R'
      obtain ⟨z0, z1, z2, z3, z4, za, zb, zc, zd, ze, zl⟩ := id X'
      have he2 : (fa M i : Int) = i := by rw [he]
      generalize fa M i = q at *
      go_wp2_with (exact bodyPost_ret (v := .agg #[.int .i64 x.e.a, .int .i64 x.e.k, .int .i64 x.e.o, .int .u64 x.e.s, .int .i64 x.t]) (by simp [results, Try.results22, go_sem, r0, r1, r2, r3, r4]) rfl ⟨by rw [hx.out], M, hp2, PM, by have h := HF; rw [hw0.out] at h; exact h⟩)
    · obtain ⟨h1, h2⟩ := fa_lt he
      have D2 := DM.step he
      have P2 : List.Perm (sw M i (fa M i)) D := (sw_perm (by omega) h2).trans PM
      have SW := fun w p0 own => swap_any b o g base n c i (fa M i) M (by omega) (by omega) hcm (by omega) w p0 own
      have he2 : ¬ (fa M i : Int) = i := by omega
      generalize fa M i = q at *
      go_wp2_with fail
      refine (SW _ HM.p0 HM.own).mono ?_
      rintro e w5 ⟨rfl, own5, far5⟩
      replace HM := HM.swapped own5 far5
      replace R' := R'.far far5 (by simp; omega)
      replace X' := X'.far far5 (by simp; omega)
      clear own5 far5 SW
      have FA := fun w p0 p1 hb own => firstAt_any b o base n c q (some ⟨g, 0, none⟩) (sw M i q) (by omega) (by omega) w p0 p1 hb own
      generalize sw M i q = M2 at *
      go_wp2_with fail
      refine (FA _ HM.p0 HM.p1 HM.lt HM.own).mono ?_
      rintro e w6 ⟨rfl, hw6⟩
      replace HM := HM.below hw6
      replace R' := At5.of hw6 R'
      replace X' := At5.of hw6 X'
      clear hw6 FA
      go_wp2_with fail
      go_roundw
      case rel => exact ⟨q, M2, rfl, rfl, .inl (by omega), D2, P2, HM, R', X'⟩
      case measure => simp [intOf]; omega
end Go.Proofs.Ytoonffglkadofaa
