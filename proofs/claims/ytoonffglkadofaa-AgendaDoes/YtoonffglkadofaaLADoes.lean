/-
  AgendaDoes: for any number and script an agenda answers as the document's: each event and error, the first one, how many there are, and all. No conditions.
-/
import Derived.Test.YtoonffglkadofaaGJ
import Derived.Test.YtoonffglkadofaaGH
import Derived.Deep.RegionHeld3
import Derived.Test.YtoonffglkadofaaRows
import Derived.WalkKit
import Derived.ProofKit
import Derived.OpenShut
import Derived.ChangeOld
import Derived.Below
import Derived.Lib.SmallJoins
namespace Go.Proofs.Ytoonffglkadofaa
open Go.RowKit
set_option linter.unusedVariables false
attribute [local go_sem] Later.cell Later.frozen
set_option maxHeartbeats 4000000 in
set_option maxRecDepth 100000 in
theorem does_long (m : Int) (so' : Option Addr) (N sc : Nat) (hN : 100 < N) (w : World) : Calls Try.prog 3 #[.int .i64 m, .slice so' N sc] w fun e w' => e = .returned (.bool true) ∧ Below w.heap.size w w' := by
  have h1 : (100 : Int) < N := by omega
  go_enter Try.func3, Try.ntmps3
  go_wp2
  go_ret
  exact ⟨rfl, Below.refl _ _⟩
set_option maxHeartbeats 4000000 in
set_option maxRecDepth 100000 in
theorem does_bad (m : Int) (so' : Option Addr) (N sc : Nat) (hN : N ≤ 100) (hm : m < 1 ∨ 65536 < m) (w : World) : Calls Try.prog 3 #[.int .i64 m, .slice so' N sc] w fun e w' => e = .returned (.bool true) ∧ Below w.heap.size w w' := by
  have h1 : ¬ (100 : Int) < N := by omega
  go_enter Try.func3, Try.ntmps3
  go_wp2_with fail
  refine (new_no m hm _).mono ?_
  rintro e w1 ⟨rfl, hB⟩
  go_wp2_with fail
  refine (rnew_no m hm _).mono ?_
  rintro e w2 ⟨rfl, hw2⟩
  replace hB := Below.call hB hB.size hw2
  clear hw2
  go_wp2_with fail
  go_loopw [9] (fun v9 wr => v9 = .int .i64 0 ∧ Below w.heap.size w wr) (fun _ _ => 0)
  case atStart => exact ⟨rfl, hB⟩
  case round =>
    obtain ⟨rfl, hB⟩ := hrel
    by_cases h0 : 0 < N
    · have h2 : (0 : Int) < N := by omega
      go_wp2_with fail
      refine (noted_any _).mono ?_
      rintro e w3 ⟨rfl, hw3⟩
      replace hB := Below.call hB hB.size hw3
      go_wp2
      go_ret
      exact ⟨rfl, hB⟩
    · obtain rfl : N = 0 := by omega
      go_wp2_with fail
      refine (noted_any _).mono ?_
      rintro e w3 ⟨rfl, hw3⟩
      replace hB := Below.call hB hB.size hw3
      go_wp2
      go_ret
      exact ⟨rfl, hB⟩
set_option maxHeartbeats 4000000 in
set_option maxRecDepth 100000 in
theorem does_yes (m : Int) (so' : Option Addr) (N sc : Nat) (Z : Nat → Stp) (hN : N ≤ 100) (m1 : 1 ≤ m) (m2 : m ≤ 65536) (w : World) (hz : Stps w so' N sc Z) : Calls Try.prog 3 #[.int .i64 m, .slice so' N sc] w fun e w' => e = .returned (.bool true) ∧ Below w.heap.size w w' := by
  have h1 : ¬ (100 : Int) < N := by omega
  have hcap := hz.cap
  have hmax := hz.max
  have hmx : maxLen = 9223372036854775807 := rfl
  go_enter Try.func3, Try.ntmps3
  go_wp2_with fail
  refine (new_yes m m1 m2 _).mono ?_
  rintro e w1 ⟨rfl, hs1, A, hB⟩
  go_wp2_with fail
  refine (rnew_yes m m1 m2 _).mono ?_
  rintro e w2 ⟨rfl, hs2, B, hw2⟩
  rw [hs1] at B hs2
  replace A := A.below hw2
  replace hB := Below.call hB hB.size hw2
  have U : Two w2 w.heap.size (w.heap.size + 1) (w.heap.size + 1 + 1) m 0 none none 0 0 0 [] [] := ⟨⟨A.c0, A.c1, A.p0, A.p1, A.f1, A.f2, World.ownsRow_nil _ _ _ _, A.fit, A.lt, by omega, by omega⟩, B, fun g h => (by cases h), by omega⟩
  clear A B hw2
  simp only [hs1]
  go_wp2_with fail
  go_loopw [9] (fun v9 wr => ∃ (i : Nat) (T : Int) (ao ao' : Option Addr) (n c c' : Nat) (L R : List Ent), i ≤ N ∧ v9 = .int .i64 i ∧ 0 ≤ T ∧ T ≤ i ∧ n ≤ i ∧ (n : Int) ≤ m ∧ Two wr w.heap.size (w.heap.size + 1) (w.heap.size + 1 + 1) m T ao ao' n c c' L R ∧ Below w.heap.size w wr) (fun v9 _ => N - (intOf v9).toNat)
  case atStart => exact ⟨0, 0, none, none, 0, 0, 0, [], [], by omega, rfl, by omega, by omega, by omega, by omega, U, hB⟩
  case round =>
    obtain ⟨i, T, ao, ao', n, c, c', L, R, hi, rfl, hT0, hT1, hni, hnm, U, hB⟩ := hrel
    by_cases hin : i < N
    · have hin2 : (i : Int) < N := by omega
      obtain ⟨sb, so, rfl, hsl, hc⟩ := hz.at' (by omega)
      obtain ⟨z0, z1, z2, z3, z4, z5⟩ := hc i hin
      have hbd := hz.bd i
      replace z0 := (hB.cell (p := ⟨sb, _, none⟩) hsl).trans z0
      replace z1 := (hB.cell (p := ⟨sb, _, none⟩) hsl).trans z1
      replace z2 := (hB.cell (p := ⟨sb, _, none⟩) hsl).trans z2
      replace z3 := (hB.cell (p := ⟨sb, _, none⟩) hsl).trans z3
      replace z4 := (hB.cell (p := ⟨sb, _, none⟩) hsl).trans z4
      replace z5 := (hB.cell (p := ⟨sb, _, none⟩) hsl).trans z5
      clear hc
      generalize Z i = z at *
      have hsr := hB.size
      go_upto_region 11 with fail
      obtain ⟨sw, hsw⟩ : ∃ sw, sw = wr.heap.size := ⟨_, rfl⟩
      refine wp_forget (fun W => Two W w.heap.size (w.heap.size + 1) (w.heap.size + 1 + 1) m T ao ao' n c c' L R ∧ SA W wr.heap.size z ∧ Below w.heap.size w W) ⟨U.below ((Below.refl _ _).alloc (Nat.le_refl _) _), SA.fresh _ _ _, by go_grown⟩ ?_
      rw [← hsw]
      have hswb : (w.heap.size + 1 + 1) ≤ sw := by rw [hsw]; exact U.a.bs
      have hga : ∀ g, (Value.slice ao n c).ownBlock = some g → g < sw := fun g h => by rw [hsw]; exact (U.a.own.lt g h).2
      have hgr : ∀ g, (Value.slice ao' n c').ownBlock = some g → g < sw := fun g h => by rw [hsw]; exact (U.r.own.lt g h).2
      clear U hB z0 z1 z2 z3 z4 z5 hsw hsr
      rintro W ⟨U, S, hB⟩
      obtain ⟨s0, s1, s2, s3, s4, s5, sl⟩ := id S
      by_cases hk : z.k = 0
      · have hk2 : (z.k == 0) = true := by simp [hk]
        by_cases hnm2 : m = n
        · have PF := fun W A => put_full w.heap.size (w.heap.size + 1 + 1) m T (.slice ao n c) n L R z.x (by omega) hnm2 W A
          have RF := fun W A => rput_full (w.heap.size + 1) (w.heap.size + 1 + 1) m (.slice ao' n c') n (es R) z.x (by omega) (by omega) W A
          have hne : Nonempty (Later W) := Later.ne W
          clear hk hnm2 hga hgr
          go_upto_region 12 with fail
          refine wp_region_later (by kernel_rfl) (by kernel_rfl) ?_
          try dsimp only [List.append]
          repeat (go_big_quiet_step (first | (go_at_call 9; refine Later.call _ (PF _ (U.a.below (Subtype.property _)))) | (go_at_call 10; refine Later.call _ (RF _ (U.r.below (Subtype.property _))))))
          refine wpQuiet_nil ?_
          rintro w6 ⟨⟨_, hw6⟩, rfl⟩
          replace U := U.below hw6
          replace hB := Below.call hB hB.size hw6
          clear hw6 S s0 s1 s2 s3 s4 s5 sl PF RF hne
          go_upto_region 18 with fail
          refine wp_forget (fun V => Two V w.heap.size (w.heap.size + 1) (w.heap.size + 1 + 1) m (T) ao ao' (n) c c' L (R) ∧ Below w.heap.size w V) ⟨U, hB⟩ ?_
          clear U hB
          rintro V ⟨U, hB⟩
          have PK := fun W A => peek_any w.heap.size (w.heap.size + 1 + 1) m (T) (.slice ao (n) c) (n) L (R) (by omega) W A
          have RK := fun W A => rpeek_any (w.heap.size + 1) (w.heap.size + 1 + 1) m (.slice ao' (n) c') (n) (es (R)) (by omega) W A
          have LE := fun W A => len_any w.heap.size (w.heap.size + 1 + 1) m (T) (.slice ao (n) c) (n) L (R) (by omega) W A
          generalize pke (es (R)) = x at *
          generalize pkb (es (R)) = v at *
          have hsV := hB.size
          go_wp2_with fail
          refine (PK _ U.a).mono ?_
          rintro e w7 ⟨rfl, hw7⟩
          have U7 := (U.below hw7).below ((Below.refl _ _).alloc (Nat.le_refl _) (.cells #[.int .i64 x.a, .int .i64 x.k, .int .i64 x.o, .int .u64 x.s] 32))
          have X7 := At4.fresh w7 (.int .i64 x.a) (.int .i64 x.k) (.int .i64 x.o) (.int .u64 x.s) 32
          replace hB := Below.call hB hB.size hw7
          have hs7 := hB.size
          replace hB : Below w.heap.size w (w7.alloc (.cells #[.int .i64 x.a, .int .i64 x.k, .int .i64 x.o, .int .u64 x.s] 32)) := by go_grown
          clear hw7 U PK
          go_wp2_with fail
          refine (RK _ U7.r).mono ?_
          rintro e w8 ⟨rfl, hw8⟩
          have U8 := (U7.below hw8).below ((Below.refl _ _).alloc (Nat.le_refl _) (.cells #[.int .i64 x.a, .int .i64 x.k, .int .i64 x.o, .int .u64 x.s] 32))
          have X8 := (At4.of hw8 X7).alloc (.cells #[.int .i64 x.a, .int .i64 x.k, .int .i64 x.o, .int .u64 x.s] 32)
          have Y8 := At4.fresh w8 (.int .i64 x.a) (.int .i64 x.k) (.int .i64 x.o) (.int .u64 x.s) 32
          replace hB := Below.call hB hB.size hw8
          have hs8 := hB.size
          replace hB : Below w.heap.size w (w8.alloc (.cells #[.int .i64 x.a, .int .i64 x.k, .int .i64 x.o, .int .u64 x.s] 32)) := by go_grown
          clear hw8 U7 RK X7
          go_upto_region 20 with fail
          refine wp_forget (fun W => Two W w.heap.size (w.heap.size + 1) (w.heap.size + 1 + 1) m (T) ao ao' (n) c c' L (R) ∧ At4 W w7.heap.size (.int .i64 x.a) (.int .i64 x.k) (.int .i64 x.o) (.int .u64 x.s) ∧ At4 W w8.heap.size (.int .i64 x.a) (.int .i64 x.k) (.int .i64 x.o) (.int .u64 x.s) ∧ Below w.heap.size w W) ⟨U8, X8, Y8, hB⟩ ?_
          clear U8 X8 Y8 hB
          rintro W ⟨U, X, Y, hB⟩
          obtain ⟨x0, x1, x2, x3, _, _, _, _, xl⟩ := id X
          obtain ⟨y0, y1, y2, y3, _, _, _, _, yl⟩ := id Y
          have r1 := U.r.c1
          have rl := U.r.lt
          have hne : Nonempty (Later W) := Later.ne W
          go_wp2_with fail
          refine wp_region_later (by kernel_rfl) (by kernel_rfl) ?_
          try dsimp only [List.append]
          repeat (go_big_quiet_step ((go_at_call 15; refine Later.call _ (LE _ (U.a.below (Subtype.property _))))))
          refine wpQuiet_nil ?_
          rintro w9 ⟨⟨_, hw9⟩, rfl⟩
          replace U := U.below hw9
          replace hB := Below.call hB hB.size hw9
          clear hw9 x0 x1 x2 x3 y0 y1 y2 y3 r1 X Y LE
          go_wp2_with fail
          go_roundw
          case rel => exact ⟨i + 1, T, ao, ao', n, c, c', L, R, by omega, by go_num, by omega, by omega, by omega, by omega, U, hB⟩
          case measure => simp [intOf]; omega
        · have hnm3 : (n : Int) < m := by omega
          clear hk
          go_upto_region 12 with fail
          clear s0 s1 s2 s3 s4 s5
          have AD := U.a.drew
          have RD := U.r.drew
          have SD := S.of (Below.refl _ _).drew
          have x1 : W.drew.cell? ⟨sw, 1, none⟩ = some (.int .i64 z.x.a) := SD.c1
          have x2 : W.drew.cell? ⟨sw, 2, none⟩ = some (.int .i64 z.x.k) := SD.c2
          have x3 : W.drew.cell? ⟨sw, 3, none⟩ = some (.int .i64 z.x.o) := SD.c3
          have x4 : W.drew.cell? ⟨sw, 4, none⟩ = some (.int .u64 z.x.s) := SD.c4
          go_wp2_with fail
          go_region_held3 (fun w' => w'.cell? ⟨sw, 1, none⟩ = some (.int .i64 z.x.a) ∧ w'.cell? ⟨sw, 2, none⟩ = some (.int .i64 z.x.k) ∧ w'.cell? ⟨sw, 3, none⟩ = some (.int .i64 z.x.o) ∧ w'.cell? ⟨sw, 4, none⟩ = some (.int .u64 z.x.s)) (first | assumption | exact ⟨by assumption, by assumption, by assumption, by assumption⟩) (first
            | (go_at_call 9; refine (put_room w.heap.size (w.heap.size + 1 + 1) m T ao n c L R z.x (by omega) hnm2 (by omega) (by omega) _ AD).mono ?_; rintro e w5 ⟨rfl, ao5, c5, L5, A5, B5, F5⟩; have R5 := (Two.mk AD RD U.d U.am).keepR F5; have S5 := SD.far F5 (fun hm => by rcases List.mem_cons.1 hm with e | hm; (exact absurd e (by omega)); (have := hga _ (mem_opt hm); omega)); have x51 := S5.c1; have x52 := S5.c2; have x53 := S5.c3; have x54 := S5.c4)
            | (go_at_call 10; refine (rput_room (w.heap.size + 1) (w.heap.size + 1 + 1) m ao' n c' (es R) z.x (by omega) hnm3 _ R5).mono ?_; rintro e w6 ⟨rfl, ao6, c6, R6, B6, F6⟩; have S6 := S5.far F6 (fun hm => by rcases List.mem_cons.1 hm with e | hm; (exact absurd e (by omega)); (have := hgr _ (mem_opt hm); omega)); have x61 := S6.c1; have x62 := S6.c2; have x63 := S6.c3; have x64 := S6.c4))
          all_goals
            have d5 : ∀ g, (Value.slice ao5 (n + 1) c5).ownBlock = some g → (Value.slice ao' n c').ownBlock = some g → False := fun g h h' => by
              rcases B5 g h with h2 | h2
              · exact U.d g h2 h'
              · have := (RD.own.lt g h').2; omega
            have d6 : ∀ g, (Value.slice ao5 (n + 1) c5).ownBlock = some g → (Value.slice ao6 (n + 1) c6).ownBlock = some g → False := fun g h h' => by
              rcases B6 g h' with h2 | h2
              · exact d5 g h h2
              · have := (A5.own.lt g h).2; omega
            rw [← es_put R ⟨z.x, T⟩] at R6
            have U2 : Two w6 w.heap.size (w.heap.size + 1) (w.heap.size + 1 + 1) m (T + 1) ao5 ao6 (n + 1) c5 c6 L5 (R ++ [⟨z.x, T⟩]) := ⟨keepA A5 R5 U.am d5 F6, R6, d6, U.am⟩
            have hB5 := AD.step hB.drew (by have := hB.size; simp; omega) (Nat.le_refl _) F5
            have hB6 : Below w.heap.size w w6 := Far.call hB5 hB5.size F6 (R5.reach (by omega))
            clear U AD RD SD S S5 S6 A5 R5 R6 F5 F6 B5 B6 d5 d6 hB hB5 x1 x2 x3 x4 x51 x52 x53 x54 x61 x62 x63 x64
            have U := U2
            have hB := hB6
            clear U2 hB6
            generalize R ++ [⟨z.x, T⟩] = R2 at *
            go_upto_region 18 with fail
            refine wp_forget (fun V => Two V w.heap.size (w.heap.size + 1) (w.heap.size + 1 + 1) m (T + 1) ao5 ao6 (n + 1) c5 c6 L5 (R2) ∧ Below w.heap.size w V) ⟨U, hB⟩ ?_
            clear U hB
            rintro V ⟨U, hB⟩
            have PK := fun W A => peek_any w.heap.size (w.heap.size + 1 + 1) m (T + 1) (.slice ao5 (n + 1) c5) (n + 1) L5 (R2) (by omega) W A
            have RK := fun W A => rpeek_any (w.heap.size + 1) (w.heap.size + 1 + 1) m (.slice ao6 (n + 1) c6) (n + 1) (es (R2)) (by omega) W A
            have LE := fun W A => len_any w.heap.size (w.heap.size + 1 + 1) m (T + 1) (.slice ao5 (n + 1) c5) (n + 1) L5 (R2) (by omega) W A
            generalize pke (es (R2)) = x at *
            generalize pkb (es (R2)) = v at *
            have hsV := hB.size
            go_wp2_with fail
            refine (PK _ U.a).mono ?_
            rintro e w7 ⟨rfl, hw7⟩
            have U7 := (U.below hw7).below ((Below.refl _ _).alloc (Nat.le_refl _) (.cells #[.int .i64 x.a, .int .i64 x.k, .int .i64 x.o, .int .u64 x.s] 32))
            have X7 := At4.fresh w7 (.int .i64 x.a) (.int .i64 x.k) (.int .i64 x.o) (.int .u64 x.s) 32
            replace hB := Below.call hB hB.size hw7
            have hs7 := hB.size
            replace hB : Below w.heap.size w (w7.alloc (.cells #[.int .i64 x.a, .int .i64 x.k, .int .i64 x.o, .int .u64 x.s] 32)) := by go_grown
            clear hw7 U PK
            go_wp2_with fail
            refine (RK _ U7.r).mono ?_
            rintro e w8 ⟨rfl, hw8⟩
            have U8 := (U7.below hw8).below ((Below.refl _ _).alloc (Nat.le_refl _) (.cells #[.int .i64 x.a, .int .i64 x.k, .int .i64 x.o, .int .u64 x.s] 32))
            have X8 := (At4.of hw8 X7).alloc (.cells #[.int .i64 x.a, .int .i64 x.k, .int .i64 x.o, .int .u64 x.s] 32)
            have Y8 := At4.fresh w8 (.int .i64 x.a) (.int .i64 x.k) (.int .i64 x.o) (.int .u64 x.s) 32
            replace hB := Below.call hB hB.size hw8
            have hs8 := hB.size
            replace hB : Below w.heap.size w (w8.alloc (.cells #[.int .i64 x.a, .int .i64 x.k, .int .i64 x.o, .int .u64 x.s] 32)) := by go_grown
            clear hw8 U7 RK X7
            go_upto_region 20 with fail
            refine wp_forget (fun W => Two W w.heap.size (w.heap.size + 1) (w.heap.size + 1 + 1) m (T + 1) ao5 ao6 (n + 1) c5 c6 L5 (R2) ∧ At4 W w7.heap.size (.int .i64 x.a) (.int .i64 x.k) (.int .i64 x.o) (.int .u64 x.s) ∧ At4 W w8.heap.size (.int .i64 x.a) (.int .i64 x.k) (.int .i64 x.o) (.int .u64 x.s) ∧ Below w.heap.size w W) ⟨U8, X8, Y8, hB⟩ ?_
            clear U8 X8 Y8 hB
            rintro W ⟨U, X, Y, hB⟩
            obtain ⟨x0, x1, x2, x3, _, _, _, _, xl⟩ := id X
            obtain ⟨y0, y1, y2, y3, _, _, _, _, yl⟩ := id Y
            have r1 := U.r.c1
            have rl := U.r.lt
            have hne : Nonempty (Later W) := Later.ne W
            go_wp2_with fail
            refine wp_region_later (by kernel_rfl) (by kernel_rfl) ?_
            try dsimp only [List.append]
            repeat (go_big_quiet_step ((go_at_call 15; refine Later.call _ (LE _ (U.a.below (Subtype.property _))))))
            refine wpQuiet_nil ?_
            rintro w9 ⟨⟨_, hw9⟩, rfl⟩
            replace U := U.below hw9
            replace hB := Below.call hB hB.size hw9
            clear hw9 x0 x1 x2 x3 y0 y1 y2 y3 r1 X Y LE
            go_wp2_with fail
            go_roundw
            case rel => exact ⟨i + 1, T + 1, ao5, ao6, n + 1, c5, c6, L5, R2, by omega, by go_num, by omega, by omega, by omega, by omega, U, hB⟩
            case measure => simp [intOf]; omega
      · have hk2 : (z.k == 0) = false := by simp [hk]
        cases hx : nxb (es R) z.t
        · have NX := fun W A => next_no w.heap.size (w.heap.size + 1 + 1) m T (.slice ao n c) n L R z.t (by omega) hx W A
          have RN := fun W A => rnext_no (w.heap.size + 1) (w.heap.size + 1 + 1) m (.slice ao' n c') n (es R) z.t (by omega) hx W A
          clear hx hk hga hgr
          go_wp2_with fail
          refine (NX _ U.a).mono ?_
          rintro e w5 ⟨rfl, hw5⟩
          replace U := (U.below hw5).below ((Below.refl _ _).alloc (Nat.le_refl _) (.cells #[.int .i64 0, .int .i64 0, .int .i64 0, .int .u64 0] 32))
          replace S := (S.of hw5).of ((Below.refl _ _).alloc (Nat.le_refl _) (.cells #[.int .i64 0, .int .i64 0, .int .i64 0, .int .u64 0] 32))
          have X := At4.fresh w5 (.int .i64 0) (.int .i64 0) (.int .i64 0) (.int .u64 0) 32
          replace hB := Below.call hB hB.size hw5
          have hs5 := hB.size
          replace hB : Below w.heap.size w (w5.alloc (.cells #[.int .i64 0, .int .i64 0, .int .i64 0, .int .u64 0] 32)) := by go_grown
          clear hw5 NX s0 s1 s2 s3 s4 s5 sl
          have s5 := S.c5
          have sl := S.lt
          go_wp2_with fail
          refine (RN _ U.r).mono ?_
          rintro e w6 ⟨rfl, hw6⟩
          replace U := (U.below hw6).below ((Below.refl _ _).alloc (Nat.le_refl _) (.cells #[.int .i64 0, .int .i64 0, .int .i64 0, .int .u64 0] 32))
          replace X := (At4.of hw6 X).alloc (.cells #[.int .i64 0, .int .i64 0, .int .i64 0, .int .u64 0] 32)
          have Y := At4.fresh w6 (.int .i64 0) (.int .i64 0) (.int .i64 0) (.int .u64 0) 32
          replace hB := Below.call hB hB.size hw6
          have hs6 := hB.size
          replace hB : Below w.heap.size w (w6.alloc (.cells #[.int .i64 0, .int .i64 0, .int .i64 0, .int .u64 0] 32)) := by go_grown
          clear hw6 RN S s5 sl
          have x0 := X.c0; have x1 := X.c1; have x2 := X.c2; have x3 := X.c3
          go_upto_region 18 with fail
          refine wp_forget (fun V => Two V w.heap.size (w.heap.size + 1) (w.heap.size + 1 + 1) m (T) ao ao' (n) c c' L (R) ∧ Below w.heap.size w V) ⟨U, hB⟩ ?_
          clear U hB X Y x0 x1 x2 x3
          rintro V ⟨U, hB⟩
          have PK := fun W A => peek_any w.heap.size (w.heap.size + 1 + 1) m (T) (.slice ao (n) c) (n) L (R) (by omega) W A
          have RK := fun W A => rpeek_any (w.heap.size + 1) (w.heap.size + 1 + 1) m (.slice ao' (n) c') (n) (es (R)) (by omega) W A
          have LE := fun W A => len_any w.heap.size (w.heap.size + 1 + 1) m (T) (.slice ao (n) c) (n) L (R) (by omega) W A
          generalize pke (es (R)) = x at *
          generalize pkb (es (R)) = v at *
          have hsV := hB.size
          go_wp2_with fail
          refine (PK _ U.a).mono ?_
          rintro e w7 ⟨rfl, hw7⟩
          have U7 := (U.below hw7).below ((Below.refl _ _).alloc (Nat.le_refl _) (.cells #[.int .i64 x.a, .int .i64 x.k, .int .i64 x.o, .int .u64 x.s] 32))
          have X7 := At4.fresh w7 (.int .i64 x.a) (.int .i64 x.k) (.int .i64 x.o) (.int .u64 x.s) 32
          replace hB := Below.call hB hB.size hw7
          have hs7 := hB.size
          replace hB : Below w.heap.size w (w7.alloc (.cells #[.int .i64 x.a, .int .i64 x.k, .int .i64 x.o, .int .u64 x.s] 32)) := by go_grown
          clear hw7 U PK
          go_wp2_with fail
          refine (RK _ U7.r).mono ?_
          rintro e w8 ⟨rfl, hw8⟩
          have U8 := (U7.below hw8).below ((Below.refl _ _).alloc (Nat.le_refl _) (.cells #[.int .i64 x.a, .int .i64 x.k, .int .i64 x.o, .int .u64 x.s] 32))
          have X8 := (At4.of hw8 X7).alloc (.cells #[.int .i64 x.a, .int .i64 x.k, .int .i64 x.o, .int .u64 x.s] 32)
          have Y8 := At4.fresh w8 (.int .i64 x.a) (.int .i64 x.k) (.int .i64 x.o) (.int .u64 x.s) 32
          replace hB := Below.call hB hB.size hw8
          have hs8 := hB.size
          replace hB : Below w.heap.size w (w8.alloc (.cells #[.int .i64 x.a, .int .i64 x.k, .int .i64 x.o, .int .u64 x.s] 32)) := by go_grown
          clear hw8 U7 RK X7
          go_upto_region 20 with fail
          refine wp_forget (fun W => Two W w.heap.size (w.heap.size + 1) (w.heap.size + 1 + 1) m (T) ao ao' (n) c c' L (R) ∧ At4 W w7.heap.size (.int .i64 x.a) (.int .i64 x.k) (.int .i64 x.o) (.int .u64 x.s) ∧ At4 W w8.heap.size (.int .i64 x.a) (.int .i64 x.k) (.int .i64 x.o) (.int .u64 x.s) ∧ Below w.heap.size w W) ⟨U8, X8, Y8, hB⟩ ?_
          clear U8 X8 Y8 hB
          rintro W ⟨U, X, Y, hB⟩
          obtain ⟨x0, x1, x2, x3, _, _, _, _, xl⟩ := id X
          obtain ⟨y0, y1, y2, y3, _, _, _, _, yl⟩ := id Y
          have r1 := U.r.c1
          have rl := U.r.lt
          have hne : Nonempty (Later W) := Later.ne W
          go_wp2_with fail
          refine wp_region_later (by kernel_rfl) (by kernel_rfl) ?_
          try dsimp only [List.append]
          repeat (go_big_quiet_step ((go_at_call 15; refine Later.call _ (LE _ (U.a.below (Subtype.property _))))))
          refine wpQuiet_nil ?_
          rintro w9 ⟨⟨_, hw9⟩, rfl⟩
          replace U := U.below hw9
          replace hB := Below.call hB hB.size hw9
          clear hw9 x0 x1 x2 x3 y0 y1 y2 y3 r1 X Y LE
          go_wp2_with fail
          go_roundw
          case rel => exact ⟨i + 1, T, ao, ao', n, c, c', L, R, by omega, by go_num, by omega, by omega, by omega, by omega, U, hB⟩
          case measure => simp [intOf]; omega
        · have NX := fun W A => next_yes w.heap.size (w.heap.size + 1 + 1) m T ao n c L R z.t (by omega) hx W A
          have RN := fun W A => rnext_yes (w.heap.size + 1) (w.heap.size + 1 + 1) m (.slice ao' n c') n (es R) z.t (by omega) hx W A
          rw [← es_erase] at RN
          clear hx hk
          generalize me (es R) 0 = x at *
          generalize R.eraseIdx (mi (es R)) = R2 at *
          go_wp2_with fail
          refine (NX _ U.a).mono ?_
          rintro e w5 ⟨rfl, L5, A5, F5⟩
          have R5 := U.keepR F5
          have S5 := S.far F5 (fun hm => by
            rcases List.mem_cons.1 hm with e | hm
            · omega
            · have := hga _ (mem_opt hm); omega)
          have hB5 := U.a.step hB hB.size (Nat.le_refl _) F5
          have hga5 : ∀ g, (Value.slice ao (n - 1) c).ownBlock = some g → g < w5.heap.size := fun g h => (A5.own.lt g h).2
          have d5 : ∀ g, (Value.slice ao (n - 1) c).ownBlock = some g → (Value.slice ao' n c').ownBlock = some g → False := fun g h h' => U.d g (by rw [own_n ao _ _ (n - 1) c]; exact h) h'
          have am := U.am
          replace A5 := A5.alloc (.cells #[.int .i64 x.a, .int .i64 x.k, .int .i64 x.o, .int .u64 x.s] 32)
          replace R5 := R5.alloc (.cells #[.int .i64 x.a, .int .i64 x.k, .int .i64 x.o, .int .u64 x.s] 32)
          replace S5 := S5.of ((Below.refl _ _).alloc (Nat.le_refl _) (.cells #[.int .i64 x.a, .int .i64 x.k, .int .i64 x.o, .int .u64 x.s] 32))
          have X := At4.fresh w5 (.int .i64 x.a) (.int .i64 x.k) (.int .i64 x.o) (.int .u64 x.s) 32
          have hs5 := hB5.size
          have l5 := R5.lt
          have hmb : (w.heap.size + 1) < w5.heap.size := by have := A5.bs; simp at this; have := hswb; have := F5.size; omega
          replace hB5 : Below w.heap.size w (w5.alloc (.cells #[.int .i64 x.a, .int .i64 x.k, .int .i64 x.o, .int .u64 x.s] 32)) := by go_grown
          clear U S hB F5 NX s0 s1 s2 s3 s4 s5 sl
          have s5 := S5.c5
          have sl := S5.lt
          go_wp2_with fail
          refine (RN _ R5).mono ?_
          rintro e w6 ⟨rfl, ao6, c6, R6, B6, F6⟩
          have d6 : ∀ g, (Value.slice ao (n - 1) c).ownBlock = some g → (Value.slice ao6 (n - 1) c6).ownBlock = some g → False := fun g h h' => by
            have h1 := hga5 g h; have h2 := B6 g h'; simp at h2; omega
          have U : Two w6 w.heap.size (w.heap.size + 1) (w.heap.size + 1 + 1) m T ao ao6 (n - 1) c c6 L5 R2 := ⟨keepA A5 R5 am d5 (F6.mono (by simp)), R6, d6, am⟩
          replace X := F6.at4 X (by simp; omega)
          have hB6 : Below w.heap.size w w6 := Far.call hB5 hB5.size F6 (fun b hb => by simp at hb; omega)
          replace U := U.below ((Below.refl _ _).alloc (Nat.le_refl _) (.cells #[.int .i64 x.a, .int .i64 x.k, .int .i64 x.o, .int .u64 x.s] 32))
          replace X := X.alloc (.cells #[.int .i64 x.a, .int .i64 x.k, .int .i64 x.o, .int .u64 x.s] 32)
          have Y := At4.fresh w6 (.int .i64 x.a) (.int .i64 x.k) (.int .i64 x.o) (.int .u64 x.s) 32
          have hs6 := hB6.size
          have hB : Below w.heap.size w (w6.alloc (.cells #[.int .i64 x.a, .int .i64 x.k, .int .i64 x.o, .int .u64 x.s] 32)) := by go_grown
          clear A5 R5 R6 S5 F6 B6 d5 d6 am RN hB5 hB6 s5 sl hga5
          have x0 := X.c0; have x1 := X.c1; have x2 := X.c2; have x3 := X.c3
          go_upto_region 18 with fail
          refine wp_forget (fun V => Two V w.heap.size (w.heap.size + 1) (w.heap.size + 1 + 1) m (T) ao ao6 (n - 1) c c6 L5 (R2) ∧ Below w.heap.size w V) ⟨U, hB⟩ ?_
          clear U hB X Y x0 x1 x2 x3
          rintro V ⟨U, hB⟩
          have PK := fun W A => peek_any w.heap.size (w.heap.size + 1 + 1) m (T) (.slice ao (n - 1) c) (n - 1) L5 (R2) (by omega) W A
          have RK := fun W A => rpeek_any (w.heap.size + 1) (w.heap.size + 1 + 1) m (.slice ao6 (n - 1) c6) (n - 1) (es (R2)) (by omega) W A
          have LE := fun W A => len_any w.heap.size (w.heap.size + 1 + 1) m (T) (.slice ao (n - 1) c) (n - 1) L5 (R2) (by omega) W A
          generalize pke (es (R2)) = xx at *
          generalize pkb (es (R2)) = v at *
          have hsV := hB.size
          go_wp2_with fail
          refine (PK _ U.a).mono ?_
          rintro e w7 ⟨rfl, hw7⟩
          have U7 := (U.below hw7).below ((Below.refl _ _).alloc (Nat.le_refl _) (.cells #[.int .i64 xx.a, .int .i64 xx.k, .int .i64 xx.o, .int .u64 xx.s] 32))
          have X7 := At4.fresh w7 (.int .i64 xx.a) (.int .i64 xx.k) (.int .i64 xx.o) (.int .u64 xx.s) 32
          replace hB := Below.call hB hB.size hw7
          have hs7 := hB.size
          replace hB : Below w.heap.size w (w7.alloc (.cells #[.int .i64 xx.a, .int .i64 xx.k, .int .i64 xx.o, .int .u64 xx.s] 32)) := by go_grown
          clear hw7 U PK
          go_wp2_with fail
          refine (RK _ U7.r).mono ?_
          rintro e w8 ⟨rfl, hw8⟩
          have U8 := (U7.below hw8).below ((Below.refl _ _).alloc (Nat.le_refl _) (.cells #[.int .i64 xx.a, .int .i64 xx.k, .int .i64 xx.o, .int .u64 xx.s] 32))
          have X8 := (At4.of hw8 X7).alloc (.cells #[.int .i64 xx.a, .int .i64 xx.k, .int .i64 xx.o, .int .u64 xx.s] 32)
          have Y8 := At4.fresh w8 (.int .i64 xx.a) (.int .i64 xx.k) (.int .i64 xx.o) (.int .u64 xx.s) 32
          replace hB := Below.call hB hB.size hw8
          have hs8 := hB.size
          replace hB : Below w.heap.size w (w8.alloc (.cells #[.int .i64 xx.a, .int .i64 xx.k, .int .i64 xx.o, .int .u64 xx.s] 32)) := by go_grown
          clear hw8 U7 RK X7
          go_upto_region 20 with fail
          refine wp_forget (fun W => Two W w.heap.size (w.heap.size + 1) (w.heap.size + 1 + 1) m (T) ao ao6 (n - 1) c c6 L5 (R2) ∧ At4 W w7.heap.size (.int .i64 xx.a) (.int .i64 xx.k) (.int .i64 xx.o) (.int .u64 xx.s) ∧ At4 W w8.heap.size (.int .i64 xx.a) (.int .i64 xx.k) (.int .i64 xx.o) (.int .u64 xx.s) ∧ Below w.heap.size w W) ⟨U8, X8, Y8, hB⟩ ?_
          clear U8 X8 Y8 hB
          rintro W ⟨U, X, Y, hB⟩
          obtain ⟨x0, x1, x2, x3, _, _, _, _, xl⟩ := id X
          obtain ⟨y0, y1, y2, y3, _, _, _, _, yl⟩ := id Y
          have r1 := U.r.c1
          have rl := U.r.lt
          have hne : Nonempty (Later W) := Later.ne W
          go_wp2_with fail
          refine wp_region_later (by kernel_rfl) (by kernel_rfl) ?_
          try dsimp only [List.append]
          repeat (go_big_quiet_step ((go_at_call 15; refine Later.call _ (LE _ (U.a.below (Subtype.property _))))))
          refine wpQuiet_nil ?_
          rintro w9 ⟨⟨_, hw9⟩, rfl⟩
          replace U := U.below hw9
          replace hB := Below.call hB hB.size hw9
          clear hw9 x0 x1 x2 x3 y0 y1 y2 y3 r1 X Y LE
          go_wp2_with fail
          go_roundw
          case rel => exact ⟨i + 1, T, ao, ao6, n - 1, c, c6, L5, R2, by omega, by go_num, by omega, by omega, by omega, by omega, U, hB⟩
          case measure => simp [intOf]; omega
    · obtain rfl : i = N := by omega
      have hni2 : ¬ (i : Int) < i := by omega
      go_wp2_with fail
      refine (noted_any _).mono ?_
      rintro e w3 ⟨rfl, hw3⟩
      replace U := U.below hw3
      replace hB := Below.call hB hB.size hw3
      clear hw3
      go_wp2_with fail
      refine (all_any w.heap.size (w.heap.size + 1 + 1) m T (.slice ao n c) n L R (by omega) _ U.a).mono ?_
      rintro e w4 ⟨⟨a4, c4, rfl, own4⟩, hw4⟩
      have E4 := Evs.told own4
      replace U := U.below hw4
      replace hB := Below.call hB hB.size hw4
      clear hw4 own4
      go_wp2_with fail
      refine (rall_any (w.heap.size + 1) (w.heap.size + 1 + 1) m (.slice ao' n c') n (es R) (by omega) _ U.r).mono ?_
      rintro e w5 ⟨⟨a5, c5, rfl, own5⟩, hw5⟩
      have E5 := Evs.told own5
      replace E4 := E4.below hw5
      replace hB := Below.call hB hB.size hw5
      clear hw5 own5 U
      go_wp2_with fail
      refine (same_any a4 a5 n c4 c5 _ _ E4 E5).mono ?_
      rintro e w6 ⟨rfl, hw6⟩
      replace hB := Below.call hB hB.size hw6
      go_wp2
      go_ret
      exact ⟨rfl, hB⟩
theorem walk_adoes (m : Int) (so' : Option Addr) (N sc : Nat) (Z : Nat → Stp) (m0 : -9223372036854775808 ≤ m) (m1 : m ≤ 9223372036854775807) (w : World) (hz : Stps w so' N sc Z) : Calls Try.prog 3 #[.int .i64 m, .slice so' N sc] w fun e w' => e = .returned (.bool true) ∧ Below w.heap.size w w' := by
  by_cases h : 100 < N
  · exact does_long m so' N sc h w
  · by_cases h2 : m < 1 ∨ 65536 < m
    · exact does_bad m so' N sc (by omega) h2 w
    · exact does_yes m so' N sc Z (by omega) (by omega) (by omega) w hz
end Go.Proofs.Ytoonffglkadofaa
namespace Go.Proofs.Ytoonffglkadofaa.agendaDoes
open Go.ChangeShapes Go.WideShapes Go.ChangeAt Go.RowKit Go.Joins
set_option linter.unusedVariables false

theorem own : ownKnob Try.prog.godebug = none := by kernel_rfl
theorem laidOut : laidOutB Try.prog = true := by kernel_rfl
theorem word_of {x : Int} (h : (Lit.int .u64 x).wf = true) : 0 ≤ x ∧ x ≤ 18446744073709551615 := by
  simp [Lit.wf, IntKind.min, IntKind.max, IntKind.signed, IntKind.bits] at h
  exact ⟨by omega, by omega⟩
theorem int_of {x : Int} (h : (Lit.int .i64 x).wf = true) : -9223372036854775808 ≤ x ∧ x ≤ 9223372036854775807 := by
  simp [Lit.wf, IntKind.min, IntKind.max, IntKind.signed, IntKind.bits] at h
  exact ⟨by omega, by omega⟩

set_option maxRecDepth 100000 in
theorem lifted (os : Os) (started : os.Started) (H : Type) (enc : TypeId × Value → H) :
    ReturnsInHanded {} Try.checked os 3 .any (Rows.agendaDoesSpec.pre6 enc Try.prog Try.f3 Rows.agendaDoesRow.domain false) (Rows.agendaDoesSpec.post enc Try.prog Try.f3 false true false false) := by
  refine returnsInHanded_of_change (C := Try.checked) own started (by kernel_rfl) Try.func3
    (ChangeSpec.witness6 (enc := enc) (C := Try.checked) false ⟨#[], #[.int .i64 0, .slice none 0 0], []⟩ 8 (by kernel_rfl) (by kernel_rfl) (by kernel_rfl) (by kernel_rfl)) ?_
  intro W base args ds gs before hval0 hW hcnd _
  have hval : ∀ (j : Nat) t v, Try.f3.params[j]? = some t → args[j]? = some v → Value.okWide Try.prog W .any base t v := hval0
  have hW' := hW
  obtain ⟨p, q, hA0, hV, rfl, hfz, hnd⟩ := hW
  have hA : DataW.TrodAll enc Try.prog W 0 (fun _ => true) true Try.f3.params.toList args.toList ds p := hA0
  rw [Try.params3] at hA hval
  obtain ⟨v0, vs0, d0, ds0, p0, q0, hargs, rfl, rfl, h0, r0⟩ := trodAll_cons hA
  obtain ⟨v1, vs1, d1, ds1, p1, q1, rfl, rfl, rfl, h1, r1⟩ := trodAll_cons r0
  obtain ⟨rfl, rfl, rfl⟩ := trodAll_nil r1
  obtain rfl : args = #[v0, v1] := by cases args; simp_all
  obtain ⟨rfl, rfl⟩ := trodVars_none hV
  obtain ⟨a0, rfl, rfl, rfl, w0⟩ := open_int Try.underlying3 (hval 0 3 v0 rfl rfl) h0
  have k1 := h1
  have lt1 : ∀ x ∈ p1, x.block < W.heap.size := by obtain ⟨m, hm⟩ := k1; exact DataW.trod_lt m _ _ _ hm
  obtain ⟨ao_1, n_1, c_1, Z_1, rfl, hz1⟩ := open_stps (hval 1 22 v1 rfl rfl) h1
  clear hA0 hval0
  refine (walk_adoes a0 ao_1 n_1 c_1 Z_1 (int_of w0).1 (int_of w0).2 W hz1).mono fun e W' ⟨he, bel⟩ => ?_
  subst he
  exact ⟨_, rfl, _, _, _, [], _, [], hW', trodAll_mk1 (shut_bool Try.underlying4 _), (trodAll_cons_mk (shut_int Try.underlying3 w0) (trodAll_cons_mk (Below.trod laidOut (by kernel_rfl) (of_decide_eq_true (by kernel_rfl)) k1 bel lt1) trodAll_mk0)), rfl, bel.frame _, fun h => by cases h⟩

theorem over : Rows.agendaDoesRow.holds Try.pinned (OpenSpec.ofChange Rows.agendaDoesSpec) :=
  OpenClaim.holds_of_wide 3 Try.f3 rfl rfl rfl rfl rfl rfl rfl ⟨rfl, rfl, rfl, rfl, rfl⟩ rfl rfl rfl rfl rfl (by kernel_rfl) Try.func3 (by kernel_rfl)
    (of_decide_eq_true (by kernel_rfl)) (by unfold Func.isWrapper; first | (rw [if_pos (by decide +kernel)]; kernel_rfl) | (rw [if_neg (by decide +kernel)]; exact ⟨rfl, rfl⟩))
    (fun os started H enc _ => lifted os started H enc)
theorem proved : Rows.AgendaDoesSaid := over
#print axioms proved
end Go.Proofs.Ytoonffglkadofaa.agendaDoes
