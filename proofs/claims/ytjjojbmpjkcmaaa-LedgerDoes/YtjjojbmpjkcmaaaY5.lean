/-
  LedgerDoes's walk. No conditions.
-/
import Derived.Test.YtjjojbmpjkcmaaaY4
namespace Go.Proofs.Ytjjojbmpjkcmaaa
open Go.RowKit Go.Maps
set_option linter.unusedVariables false
theorem wrap_in {x : Int} (h1 : -9223372036854775808 ≤ x) (h2 : x ≤ 9223372036854775807) : IntKind.i64.wrap x = x := by unfold IntKind.wrap; simp [IntKind.bits, IntKind.signed]; omega
theorem same_yes (ao ao' : Option Addr) (n n' c c' : Nat) (A : List Pt) (w : World) (hA : Pks w ao n c A) (hB : Pks w ao' n' c' A) :
    Calls Try.prog 13 #[.slice ao n c, .slice ao' n' c'] w fun e w' => e = .returned (.bool true) ∧ Below w.heap.size w w' := by
  have := same_any ao ao' n n' c c' A A w hA hB
  rw [show decide (A = A) = true from decide_eq_true rfl] at this
  exact this
theorem free_room (lb mb : Nat) (s : Lg) (hs : s.ok) (room : Int) (hr : s.room = room) (w : World) (H : Led w lb mb s) : Calls Try.prog 18 #[.pointer (some ⟨lb, 0, none⟩)] w fun e w' => e = .returned (.int .i64 (room - s.L.length)) ∧ Below w.heap.size w w' :=
  (free_any lb mb s hs w H).mono fun e w' ⟨h, q, hq⟩ => ⟨by rw [← hr]; exact h, by rw [hq]; exact ⟨rfl, rfl, rfl, Nat.le_refl _, fun _ _ => rfl⟩⟩
set_option maxRecDepth 8000 in
set_option maxHeartbeats 4000000 in
theorem does_walk (room first : Int) (ao : Option Addr) (n c : Nat) (Z : Nat → St) (r0 : -9223372036854775808 ≤ room) (r1 : room ≤ 9223372036854775807) (f0 : 0 ≤ first) (f1 : first ≤ 18446744073709551615) (w : World) (hz : Steps w ao n c Z) :
    Calls Try.prog 3 #[.int .i64 room, .int .u64 first, .slice ao n c] w fun e w' => e = .returned (.bool true) ∧ Below w.heap.size w w' := by
  have hcap := hz.cap; have hmax := hz.max
  have hmx : maxLen = 9223372036854775807 := rfl
  go_enter Try.func3, Try.ntmps3
  by_cases hn : 150 < (n : Int)
  · go_wp2_with fail
    go_ret
    exact ⟨rfl, by go_grown⟩
  by_cases hr : room < 1 ∨ 4096 < room
  · go_wp2_with fail
    refine (new_no room first hr _).mono ?_
    rintro e w1 ⟨rfl, B1⟩
    go_wp2_with fail
    refine (rnew_no room first hr _).mono ?_
    rintro e w2 ⟨rfl, rfl⟩
    go_wp2_with fail
    go_loopw [11] (fun vi wr => vi = .int .i64 0 ∧ Below w.heap.size w wr) (fun _ _ => 0)
    case atStart => exact ⟨rfl, B1⟩
    case round =>
      obtain ⟨rfl, hB⟩ := hrel
      by_cases h0 : 0 < (n : Int)
      · go_wp2_with fail
        refine (entered_any _).mono ?_
        rintro e w3 ⟨rfl, B2⟩
        have B3 := hB.trans (B2.mono hB.size)
        go_wp2_with fail
        go_ret
        exact ⟨rfl, B3⟩
      · go_wp2_with fail
        refine (entered_any _).mono ?_
        rintro e w3 ⟨rfl, B2⟩
        have B3 := hB.trans (B2.mono hB.size)
        go_wp2_with fail
        go_ret
        exact ⟨rfl, B3⟩
  go_wp2_with fail
  refine (new_yes room first (by omega) (by omega) f0 f1 _).mono ?_
  rintro e w1 ⟨lb, mb, rfl, H1, hl, hm, B1⟩
  have hlb1 := H1.ob.lt
  have hmb1 := H1.map.lt
  go_wp2_with fail
  refine (rnew_yes room first (by omega) (by omega) _).mono ?_
  rintro e w2 ⟨rb, rfl, HR1, hrb, B2⟩
  have HL1 := H1.below B2
  have BW := B1.trans (B2.mono B1.size)
  have ok1 : (⟨room, first, first, first, 0, []⟩ : Lg).ok := new_ok room first (by omega) (by omega) f0 f1
  have hS : ∀ b ∈ [lb, mb], w.heap.size ≤ b := by simp; omega
  have hSB : ∀ b ∈ [lb, mb], b < rb + 1 := by simp; omega
  have hrn : rb ∉ [lb, mb] := by simp; omega
  have hln : lb ≠ rb := by omega
  have hmn : mb ≠ rb := by omega
  have hrw : w.heap.size ≤ rb := Nat.le_trans B1.size hrb
  clear H1 B1 B2 hlb1 hmb1
  go_wp2_with fail
  go_loopw [11] (fun vi wr => ∃ (i : Nat) (s : Lg) (v : Value), i ≤ n ∧ vi = .int .i64 i ∧ s.ok ∧ s.room = room ∧ Led wr lb mb s ∧ RLed (rb + 1) rb wr v s ∧ Below w.heap.size w wr) (fun vi _ => n - (intOf vi).toNat)
  case atStart => exact ⟨0, _, _, Nat.zero_le _, rfl, ok1, rfl, HL1, HR1, BW⟩
  case round =>
    obtain ⟨i, s, v, hi, rfl, hs, hroom, HL, HR, hB⟩ := hrel
    by_cases hin : (i : Int) < (n : Int)
    · have hzr := hz.below hB
      obtain ⟨b, o, rfl, hbl, hc⟩ := hzr.at' (by omega)
      have hbd := hzr.bd i
      obtain ⟨c0, c1, c2, c3, c4⟩ := hc i (by omega)
      clear hc hzr
      generalize Z i = z at *
      obtain ⟨⟨k0, k1⟩, ⟨m0, m1⟩, ⟨s0, s1⟩, ⟨a0, a1⟩, q0, q1⟩ := hbd
      obtain ⟨zk, zm, zs, za, zq⟩ := z
      simp only at *
      have hlb := HL.ob.lt
      have hmb := HL.map.lt
      have hrl := HR.ob.lt
      have hvl : ∀ x, v.ownBlock = some x → x < wr.heap.size ∧ rb + 1 ≤ x := fun x e => own_lt HR.row e
      have O := Ob.fresh wr #[.int .i64 zk, .int .i64 zm, .int .i64 zs, .int .i64 za, .int .u64 zq] 32
      have HLA := HL.below ((Below.refl _ wr).alloc (Nat.le_refl _) (.cells #[.int .i64 zk, .int .i64 zm, .int .i64 zs, .int .i64 za, .int .u64 zq] 32))
      have HRA := HR.below ((Below.refl _ wr).alloc (Nat.le_refl _) (.cells #[.int .i64 zk, .int .i64 zm, .int .i64 zs, .int .i64 za, .int .u64 zq] 32))
      have BA : Below w.heap.size w (wr.alloc (.cells #[.int .i64 zk, .int .i64 zm, .int .i64 zs, .int .i64 za, .int .u64 zq] 32)) := hB.alloc hB.size _
      have hgl : wr.heap.size ∉ [lb, mb] := by simp; omega
      have hgr : wr.heap.size ∉ rb :: v.ownBlock.toList := by
        simp only [List.mem_cons, Option.mem_toList, not_or]
        exact ⟨by omega, fun e => by have := (hvl _ e).1; omega⟩
      have hlv : lb ∉ rb :: v.ownBlock.toList := by
        simp only [List.mem_cons, Option.mem_toList, not_or]
        exact ⟨hln, fun e => by have := (hvl _ e).2; have := hSB lb (by simp); omega⟩
      have hmv : mb ∉ rb :: v.ownBlock.toList := by
        simp only [List.mem_cons, Option.mem_toList, not_or]
        exact ⟨hmn, fun e => by have := (hvl _ e).2; have := hSB mb (by simp); omega⟩
      have hSv : ∀ x ∈ rb :: v.ownBlock.toList, w.heap.size ≤ x := fun x hx => by
        simp only [List.mem_cons, Option.mem_toList] at hx
        rcases hx with rfl | hx
        · exact hrw
        · have := (hvl _ hx).2; omega
      by_cases hk0 : zk = 0
      · subst hk0
        go_wp2_with fail
        generalize (wr.alloc (.cells #[.int .i64 0, .int .i64 zm, .int .i64 zs, .int .i64 za, .int .u64 zq] 32)) = W1 at *
        generalize wr.heap.size = g at *
        refine (send_any lb mb s hs _ _ _ _ HLA).mono ?_
        rintro e w2 ⟨rfl, HL2, F⟩
        have HR2 := HRA.far F hSB hrn
        have O2 := O.far F hgl
        have B2 := Far.call BA BA.size F hS
        have d1 : w2.cell? ⟨g, 1, none⟩ = some (.int .i64 zm) := O2.cell rfl
        have d2 : w2.cell? ⟨g, 2, none⟩ = some (.int .i64 zs) := O2.cell rfl
        have d3 : w2.cell? ⟨g, 3, none⟩ = some (.int .i64 za) := O2.cell rfl
        clear F HLA HRA BA O c0 c1 c2 c3 c4 hB HL HR
        go_wp2_with fail
        refine (rsend_any (rb + 1) rb v s hs _ _ _ m0 m1 s0 s1 a0 a1 _ HR2).mono ?_
        rintro e w3 ⟨rfl, ⟨v3, HR3⟩, F⟩
        have HL3 := HL2.far F hlv hmv
        have B3 := Far.call B2 B2.size F hSv
        have ok3 := sent_ok hs zm zs za
        have hroom3 : (sentL s zm zs za).room = room := by unfold sentL; split <;> exact hroom
        clear F HL2 HR2 O2 B2 d1 d2 d3 hvl hgr hlv hmv hSv hroom
        generalize sentL s zm zs za = s3 at *
        generalize seqv s zm zs za = sv at *
        generalize refv s zm zs za = rv at *
        obtain ⟨ar, cr, rfl, PR⟩ := Pks.own HR3.row
        obtain ⟨q0, q1, q2, q3, q4, qz, qlt⟩ := HR3.cells
        have hml := ok3.len; have hm1 := ok3.r1; have hm0 := ok3.r0
        have hprc := PR.cap; have hprm := PR.max
        have hwr : IntKind.i64.wrap (room - ((s3).L.length : Int)) = room - ((s3).L.length : Int) := wrap_in (by omega) (by omega)
        go_wp2_with fail
        go_region_held3 (fun w' => w'.cell? ⟨rb, 2, none⟩ = some (.int .u64 (s3).next) ∧ w'.cell? ⟨rb, 4, none⟩ = some (.slice ar (s3).L.length cr))
          (first | (exact ⟨by assumption, by assumption⟩) | go_keep | (go_split_ands; exact ⟨by first | assumption | (simp [*, go_sem]; done), by first | assumption | (simp [*, go_sem]; done)⟩))
          (first
            | (go_at_call 16; refine (open_any lb mb _ ok3 _ (HL3.below (by go_grown))).mono ?_; rintro e wo ⟨vo, rfl, owno, Bo⟩; have G1 : Below w3.heap.size w3 wo := Below.call (by go_grown) (by simp) Bo; obtain ⟨ao, co, rfl, PO⟩ := Pks.own owno; have PR1 := PR.below G1; have HXa := HR3.below G1; obtain ⟨_, _, r2, _, r4, _, _⟩ := HXa.cells)
            | (go_at_call 13; refine (same_yes _ _ _ _ _ _ _ _ (PO.below (by go_grown)) (PR1.below (by go_grown))).mono ?_; rintro e ws ⟨rfl, Bs⟩; have G2 : Below w3.heap.size w3 ws := Below.call (by go_grown) (by have := G1.size; simp; omega) Bs; have HXb := HR3.below G2; obtain ⟨_, _, t2, _, t4, _, _⟩ := HXb.cells)
            | (go_at_call 17; refine (next_any lb mb _ _ (HL3.below (by go_grown))).mono ?_; rintro e wn ⟨rfl, Bn⟩; have G3 : Below w3.heap.size w3 wn := Below.call (by go_grown) (by have := G2.size; simp; omega) Bn; have HXc := HR3.below G3; obtain ⟨_, _, u2, _, u4, _, _⟩ := HXc.cells)
            | (go_at_call 18; refine (free_room lb mb _ ok3 room hroom3 _ (HL3.below (by go_grown))).mono ?_; rintro e wf ⟨rfl, Bf⟩; have G4 : Below w3.heap.size w3 wf := Below.call (by go_grown) (by have := G3.size; simp; omega) Bf; have HXd := HR3.below G4; obtain ⟨_, _, x2, _, x4, _, _⟩ := HXd.cells))
        go_wp2_with fail
        have BE := Below.call B3 B3.size G4
        exact ⟨⟨i + 1, _, _, by omega, by simp, ok3, hroom3, HL3.below G4, HXd, BE⟩, by simp only [intOf]; omega⟩
      by_cases hk1 : zk = 1
      · subst hk1
        go_wp2_with fail
        generalize (wr.alloc (.cells #[.int .i64 1, .int .i64 zm, .int .i64 zs, .int .i64 za, .int .u64 zq] 32)) = W1 at *
        generalize wr.heap.size = g at *
        refine (take_any lb mb s hs _ q0 q1 _ HLA).mono ?_
        rintro e w2 ⟨rfl, HL2, F⟩
        have HR2 := HRA.far F hSB hrn
        have O2 := O.far F hgl
        have B2 := Far.call BA BA.size F hS
        have hp : ∀ q : Pt, tkp s zq = q → True := fun _ _ => trivial
        obtain ⟨⟨ps, pm, pz, pt⟩, hq⟩ : ∃ q, tkp s zq = q := ⟨_, rfl⟩
        rw [hq]
        have HLB := HL2.below ((Below.refl _ w2).alloc (Nat.le_refl _) (.cells #[.int .u64 ps, .int .i64 pm, .int .i64 pz, .int .i64 pt] 36))
        have HRB := HR2.below ((Below.refl _ w2).alloc (Nat.le_refl _) (.cells #[.int .u64 ps, .int .i64 pm, .int .i64 pz, .int .i64 pt] 36))
        have O3 := O2.far ((Far.refl [] w2).alloc (.cells #[.int .u64 ps, .int .i64 pm, .int .i64 pz, .int .i64 pt] 36)) (by simp)
        have P2 := Ob.fresh w2 #[.int .u64 ps, .int .i64 pm, .int .i64 pz, .int .i64 pt] 36
        have BB : Below w.heap.size w (w2.alloc (.cells #[.int .u64 ps, .int .i64 pm, .int .i64 pz, .int .i64 pt] 36)) := B2.alloc B2.size _
        have d4 : w2.cell? ⟨g, 4, none⟩ = some (.int .u64 zq) := O2.cell rfl
        have g2 : g < w2.heap.size := O2.lt
        have hpr : w2.heap.size ∉ rb :: v.ownBlock.toList := by
          simp only [List.mem_cons, Option.mem_toList, not_or]
          exact ⟨fun e => by have := HR2.ob.lt; omega, fun e => by have := (own_lt HR2.row e).1; omega⟩
        clear F HLA HRA BA O c0 c1 c2 c3 c4 hB HL HR
        go_wp2_with fail
        generalize (w2.alloc (.cells #[.int .u64 ps, .int .i64 pm, .int .i64 pz, .int .i64 pt] 36)) = W2 at *
        generalize w2.heap.size = g2' at *
        refine (rtake_any (rb + 1) rb v s hs _ q0 q1 _ HRB).mono ?_
        rintro e w3 ⟨rfl, ⟨v3, HR3⟩, F⟩
        rw [hq]
        have F' : Far (rb :: v.ownBlock.toList) W2 w3 := F.mono (by simp)
        have HL3 := HLB.far F' hlv hmv
        have B3 := Far.call BB BB.size F' hSv
        have P3 := P2.far F' hpr
        have HLC := HL3.below ((Below.refl _ w3).alloc (Nat.le_refl _) (.cells #[.int .u64 ps, .int .i64 pm, .int .i64 pz, .int .i64 pt] 36))
        have HRC := HR3.below ((Below.refl _ w3).alloc (Nat.le_refl _) (.cells #[.int .u64 ps, .int .i64 pm, .int .i64 pz, .int .i64 pt] 36))
        have BC : Below w.heap.size w (w3.alloc (.cells #[.int .u64 ps, .int .i64 pm, .int .i64 pz, .int .i64 pt] 36)) := B3.alloc B3.size _
        have e0 : w3.cell? ⟨g2', 0, none⟩ = some (.int .u64 ps) := P3.cell rfl
        have e1 : w3.cell? ⟨g2', 1, none⟩ = some (.int .i64 pm) := P3.cell rfl
        have e2 : w3.cell? ⟨g2', 2, none⟩ = some (.int .i64 pz) := P3.cell rfl
        have e3 : w3.cell? ⟨g2', 3, none⟩ = some (.int .i64 pt) := P3.cell rfl
        have g3 : g2' < w3.heap.size := P3.lt
        have EQ : ∀ w, (Op.equalIn 10000 36 (.agg #[.int .u64 ps, .int .i64 pm, .int .i64 pz, .int .i64 pt]) (.agg #[.int .u64 ps, .int .i64 pm, .int .i64 pz, .int .i64 pt])).run Try.prog w = .ok true w := fun w => by
          have := eqPt ⟨ps, pm, pz, pt⟩ ⟨ps, pm, pz, pt⟩ w
          rw [show decide ((⟨ps, pm, pz, pt⟩ : Pt) = ⟨ps, pm, pz, pt⟩) = true from decide_eq_true rfl] at this
          exact this
        have ok3 := taken_ok hs zq
        have hroom3 : (takenL s zq).room = room := by unfold takenL; split <;> exact hroom
        clear F F' HL2 HR2 O2 O3 B2 hvl hgr hlv hmv hSv hroom hq P2 P3 BB HLB HRB d4 hpr HL3 HR3 B3 hp
        generalize takenL s zq = s3 at *
        generalize tkv s zq = rv at *
        go_wp2_with fail
        generalize (w3.alloc (.cells #[.int .u64 ps, .int .i64 pm, .int .i64 pz, .int .i64 pt] 36)) = W3 at *
        obtain ⟨ar, cr, rfl, PR⟩ := Pks.own HRC.row
        obtain ⟨q0, q1, q2, q3, q4, qz, qlt⟩ := HRC.cells
        have hml := ok3.len; have hm1 := ok3.r1; have hm0 := ok3.r0
        have hprc := PR.cap; have hprm := PR.max
        have hwr : IntKind.i64.wrap (room - ((s3).L.length : Int)) = room - ((s3).L.length : Int) := wrap_in (by omega) (by omega)
        go_wp2_with fail
        go_region_held3 (fun w' => w'.cell? ⟨rb, 2, none⟩ = some (.int .u64 (s3).next) ∧ w'.cell? ⟨rb, 4, none⟩ = some (.slice ar (s3).L.length cr))
          (first | (exact ⟨by assumption, by assumption⟩) | go_keep | (go_split_ands; exact ⟨by first | assumption | (simp [*, go_sem]; done), by first | assumption | (simp [*, go_sem]; done)⟩))
          (first
            | (go_at_call 16; refine (open_any lb mb _ ok3 _ (HLC.below (by go_grown))).mono ?_; rintro e wo ⟨vo, rfl, owno, Bo⟩; have G1 : Below W3.heap.size W3 wo := Below.call (by go_grown) (by simp) Bo; obtain ⟨ao, co, rfl, PO⟩ := Pks.own owno; have PR1 := PR.below G1; have HXa := HRC.below G1; obtain ⟨_, _, r2, _, r4, _, _⟩ := HXa.cells)
            | (go_at_call 13; refine (same_yes _ _ _ _ _ _ _ _ (PO.below (by go_grown)) (PR1.below (by go_grown))).mono ?_; rintro e ws ⟨rfl, Bs⟩; have G2 : Below W3.heap.size W3 ws := Below.call (by go_grown) (by have := G1.size; simp; omega) Bs; have HXb := HRC.below G2; obtain ⟨_, _, t2, _, t4, _, _⟩ := HXb.cells)
            | (go_at_call 17; refine (next_any lb mb _ _ (HLC.below (by go_grown))).mono ?_; rintro e wn ⟨rfl, Bn⟩; have G3 : Below W3.heap.size W3 wn := Below.call (by go_grown) (by have := G2.size; simp; omega) Bn; have HXc := HRC.below G3; obtain ⟨_, _, u2, _, u4, _, _⟩ := HXc.cells)
            | (go_at_call 18; refine (free_room lb mb _ ok3 room hroom3 _ (HLC.below (by go_grown))).mono ?_; rintro e wf ⟨rfl, Bf⟩; have G4 : Below W3.heap.size W3 wf := Below.call (by go_grown) (by have := G3.size; simp; omega) Bf; have HXd := HRC.below G4; obtain ⟨_, _, x2, _, x4, _, _⟩ := HXd.cells))
        go_wp2_with fail
        have BE := Below.call BC BC.size G4
        exact ⟨⟨i + 1, _, _, by omega, by simp, ok3, hroom3, HLC.below G4, HXd, BE⟩, by simp only [intOf]; omega⟩
      · go_wp2_with fail
        have O2 := O
        have d2 : (wr.alloc (.cells #[.int .i64 zk, .int .i64 zm, .int .i64 zs, .int .i64 za, .int .u64 zq] 32)).cell? ⟨wr.heap.size, 2, none⟩ = some (.int .i64 zs) := O.cell rfl
        have d3 : (wr.alloc (.cells #[.int .i64 zk, .int .i64 zm, .int .i64 zs, .int .i64 za, .int .u64 zq] 32)).cell? ⟨wr.heap.size, 3, none⟩ = some (.int .i64 za) := O.cell rfl
        have hgW := O.lt
        generalize (wr.alloc (.cells #[.int .i64 zk, .int .i64 zm, .int .i64 zs, .int .i64 za, .int .u64 zq] 32)) = W1 at *
        generalize wr.heap.size = g at *
        go_upto_region 12 with fail
        go_cut [75] (fun s75 wx => s75 = .bool false ∧ ∃ o v', Led wx lb mb { s with oldest := o, L := s.L.filter (fun p => !isover za zs p) } ∧ ({ s with oldest := o, L := s.L.filter (fun p => !isover za zs p) } : Lg).ok ∧
          RLed (rb + 1) rb wx v' { s with L := s.L.filter (fun p => !isover za zs p) } ∧ Below w.heap.size w wx)
        case first =>
          have hrs : ∀ x ∈ [rb], w.heap.size ≤ x := by simp; omega
          have hl2 := HLA.ob.lt
          have hm2 := HLA.map.lt
          have hr2 := HRA.ob.lt
          have hlr : lb ∉ [rb] := by simpa using hln
          have hmr : mb ∉ [rb] := by simpa using hmn
          have hgr2 : g ∉ [rb] := by simp only [List.mem_cons, not_or] at hgr; simpa using hgr.1
          have BD : Below w.heap.size w W1.drew := BA.drew
          have HLD := HLA.below ((Below.refl _ W1).drew)
          have HRD := HRA.below ((Below.refl _ W1).drew)
          have OD := O.far ((Far.refl [] W1).drew) (by simp)
          have hsd : W1.drew.heap.size = W1.heap.size := rfl
          go_region_held3 (fun w' => w'.cell? ⟨g, 2, none⟩ = some (.int .i64 zs) ∧ w'.cell? ⟨g, 3, none⟩ = some (.int .i64 za))
            (first | (exact ⟨by assumption, by assumption⟩) | go_keep | (go_split_ands; exact ⟨by first | assumption | (simp [*, go_sem]; done), by first | assumption | (simp [*, go_sem]; done)⟩))
            (first
              | (go_at_call 13; refine (same_yes _ _ _ _ _ _ _ _ (PL.below (by go_grown)) (PR.below (by go_grown))).mono ?_; rintro e ws ⟨rfl, Bs⟩; have Gs : Below wz.heap.size wz ws := Below.call (by go_grown) (by simp) Bs; have Os := Oz.far (Far.of_below Gs) (by simp); have u2 : ws.cell? ⟨g, 2, none⟩ = some (.int .i64 zs) := Os.cell rfl; have u3 : ws.cell? ⟨g, 3, none⟩ = some (.int .i64 za) := Os.cell rfl)
              | (go_at_call 15; refine (rexpire_any (rb + 1) rb v s hs za zs a0 a1 s0 s1 _ (HRl.below (by go_grown))).mono ?_; rintro e wz ⟨vr, rfl, ownr, ⟨v', HRz⟩, Fz⟩; have HLz := (HLl.below (by go_grown)).far Fz hlr hmr; have Bz : Below w.heap.size w wz := Far.call (by go_grown) (by have := Bl.size; simp; omega) Fz hrs; have Oz := (Ol.far (Far.of_below (by go_grown)) (by simp)).far Fz hgr2; have q2 : wz.cell? ⟨g, 2, none⟩ = some (.int .i64 zs) := Oz.cell rfl; have q3 : wz.cell? ⟨g, 3, none⟩ = some (.int .i64 za) := Oz.cell rfl; have ownl2 := own_far (own_far ownl (Far.of_below (by go_grown)) (by simp)) Fz (by simp; omega); obtain ⟨al, cl, rfl, PL⟩ := Pks.own ownl2; obtain ⟨ar, cr, rfl, PR⟩ := Pks.own ownr)
              | (go_at_call 14; refine (expire_any lb mb s hs za zs a0 a1 s0 s1 _ (HLm.below (by go_grown))).mono ?_; rintro e wz ⟨vl, rfl, ownl, ⟨o', HLz, okz⟩, Fz⟩; have HRz := (HRm.below (by go_grown)).far Fz hSB hrn; have Bz : Below w.heap.size w wz := Far.call (by go_grown) (by have := Bm.size; simp; omega) Fz hS; have Oz := (Om.far (Far.of_below (by go_grown)) (by simp)).far Fz hgl; have q2 : wz.cell? ⟨g, 2, none⟩ = some (.int .i64 zs) := Oz.cell rfl; have q3 : wz.cell? ⟨g, 3, none⟩ = some (.int .i64 za) := Oz.cell rfl; have ownr2 := own_far (own_far ownr (Far.of_below (by go_grown)) (by simp)) Fz (by simp; omega); obtain ⟨al, cl, rfl, PL⟩ := Pks.own ownl; obtain ⟨ar, cr, rfl, PR⟩ := Pks.own ownr2)
              | (go_at_call 14; refine (expire_any lb mb s hs za zs a0 a1 s0 s1 _ (HLA.below (by go_grown))).mono ?_; rintro e wl ⟨vl, rfl, ownl, ⟨o', HLl, okz⟩, Fl⟩; have HRl := HRD.far Fl hSB hrn; have Ol := OD.far Fl hgl; have Bl : Below w.heap.size w wl := Far.call BD BD.size Fl hS; have n2 : wl.cell? ⟨g, 2, none⟩ = some (.int .i64 zs) := Ol.cell rfl; have n3 : wl.cell? ⟨g, 3, none⟩ = some (.int .i64 za) := Ol.cell rfl)
              | (go_at_call 15; refine (rexpire_any (rb + 1) rb v s hs za zs a0 a1 s0 s1 _ (HRA.below (by go_grown))).mono ?_; rintro e wm ⟨vr, rfl, ownr, ⟨v', HRm⟩, Fm⟩; have HLm := HLD.far Fm hlr hmr; have Om := OD.far Fm hgr2; have Bm : Below w.heap.size w wm := Far.call BD BD.size Fm hrs; have n2 : wm.cell? ⟨g, 2, none⟩ = some (.int .i64 zs) := Om.cell rfl; have n3 : wm.cell? ⟨g, 3, none⟩ = some (.int .i64 za) := Om.cell rfl))
          all_goals go_wp2_with fail
          all_goals go_meet
          all_goals exact ⟨rfl, o', v', HLz.below Gs, okz, HRz.below Gs, Bz.trans (Gs.mono Bz.size)⟩
        case rest =>
          obtain ⟨rfl, o', v', HLx, okx, HRx, Bx⟩ := hcut
          have HRy : RLed (rb + 1) rb wc v' { s with oldest := o', L := s.L.filter (fun p => !isover za zs p) } := ⟨HRx.ob, HRx.row, HRx.lt, HRx.sz⟩
          have hroom3 : ({ s with oldest := o', L := s.L.filter (fun p => !isover za zs p) } : Lg).room = room := hroom
          clear HLA HRA BA O O2 c0 c1 c2 c3 c4 hB HL HR HRx hvl hgr hlv hmv hSv hroom d2 d3 hgW
          generalize ({ s with oldest := o', L := s.L.filter (fun p => !isover za zs p) } : Lg) = s3 at *
          obtain ⟨ar, cr, rfl, PR⟩ := Pks.own HRy.row
          obtain ⟨q0, q1, q2, q3, q4, qz, qlt⟩ := HRy.cells
          have hml := okx.len; have hm1 := okx.r1; have hm0 := okx.r0
          have hprc := PR.cap; have hprm := PR.max
          have hwr : IntKind.i64.wrap (room - ((s3).L.length : Int)) = room - ((s3).L.length : Int) := wrap_in (by omega) (by omega)
          go_wp2_with fail
          go_region_held3 (fun w' => w'.cell? ⟨rb, 2, none⟩ = some (.int .u64 (s3).next) ∧ w'.cell? ⟨rb, 4, none⟩ = some (.slice ar (s3).L.length cr))
            (first | (exact ⟨by assumption, by assumption⟩) | go_keep | (go_split_ands; exact ⟨by first | assumption | (simp [*, go_sem]; done), by first | assumption | (simp [*, go_sem]; done)⟩))
            (first
              | (go_at_call 16; refine (open_any lb mb _ okx _ (HLx.below (by go_grown))).mono ?_; rintro e wo ⟨vo, rfl, owno, Bo⟩; have G1 : Below wc.heap.size wc wo := Below.call (by go_grown) (by simp) Bo; obtain ⟨ao, co, rfl, PO⟩ := Pks.own owno; have PR1 := PR.below G1; have HXa := HRy.below G1; obtain ⟨_, _, r2, _, r4, _, _⟩ := HXa.cells)
              | (go_at_call 13; refine (same_yes _ _ _ _ _ _ _ _ (PO.below (by go_grown)) (PR1.below (by go_grown))).mono ?_; rintro e ws ⟨rfl, Bs⟩; have G2 : Below wc.heap.size wc ws := Below.call (by go_grown) (by have := G1.size; simp; omega) Bs; have HXb := HRy.below G2; obtain ⟨_, _, t2, _, t4, _, _⟩ := HXb.cells)
              | (go_at_call 17; refine (next_any lb mb _ _ (HLx.below (by go_grown))).mono ?_; rintro e wn ⟨rfl, Bn⟩; have G3 : Below wc.heap.size wc wn := Below.call (by go_grown) (by have := G2.size; simp; omega) Bn; have HXc := HRy.below G3; obtain ⟨_, _, u2, _, u4, _, _⟩ := HXc.cells)
              | (go_at_call 18; refine (free_room lb mb _ okx room hroom3 _ (HLx.below (by go_grown))).mono ?_; rintro e wf ⟨rfl, Bf⟩; have G4 : Below wc.heap.size wc wf := Below.call (by go_grown) (by have := G3.size; simp; omega) Bf; have HXd := HRy.below G4; obtain ⟨_, _, x2, _, x4, _, _⟩ := HXd.cells))
          go_wp2_with fail
          have BE := Below.call Bx Bx.size G4
          exact ⟨⟨i + 1, _, _, by omega, by simp, okx, hroom3, HLx.below G4, HXd, BE⟩, by simp only [intOf]; omega⟩
    · have hie : i = n := by omega
      have h0 : ¬ (i : Int) < (n : Int) := by omega
      go_wp2_with fail
      refine (entered_any _).mono ?_
      rintro e w3 ⟨rfl, B2⟩
      have B3 := hB.trans (B2.mono hB.size)
      go_wp2_with fail
      go_ret
      exact ⟨rfl, B3⟩
end Go.Proofs.Ytjjojbmpjkcmaaa
