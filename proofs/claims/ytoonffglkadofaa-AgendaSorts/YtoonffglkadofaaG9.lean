/-
  The program's Put and Next. No conditions but the agenda's own, and that it is short.
-/
import Derived.Test.YtoonffglkadofaaG8
namespace Go.Proofs.Ytoonffglkadofaa
open Go.RowKit
set_option linter.unusedVariables false
attribute [local go_sem] Later.cell Later.frozen
set_option maxRecDepth 100000 in
theorem put_nil (x : Ev) (w : World) : Calls Try.prog 9 #[.pointer none, .agg #[.int .i64 x.a, .int .i64 x.k, .int .i64 x.o, .int .u64 x.s]] w fun e w' => e = .returned (.int .i64 5) ∧ Below w.heap.size w w' := by
  go_enter Try.func9, Try.ntmps9
  go_wp2
  go_ret
  exact ⟨rfl, by go_grown⟩
set_option maxHeartbeats 1000000 in
set_option maxRecDepth 100000 in
theorem put_full (ab base : Nat) (m T : Int) (v : Value) (n : Nat) (L R : List Ent) (x : Ev) (hn : n ≤ 100000) (hm : m = n) (w : World) (A : Ag w ab base m T v n L R) :
    Calls Try.prog 9 #[.pointer (some ⟨ab, 0, none⟩), .agg #[.int .i64 x.a, .int .i64 x.k, .int .i64 x.o, .int .u64 x.s]] w fun e w' => e = .returned (.int .i64 2) ∧ Below w.heap.size w w' := by
  have LE := fun w A => len_any ab base m T v n L R hn w A
  have c0 := A.c0
  have lt := A.lt
  subst hm
  go_enter Try.func9, Try.ntmps9
  go_upto_region 3 with fail
  refine wp_forget (fun W => Ag W ab base n T v n L R ∧ Below w.heap.size w W) ⟨A.alloc _, by go_grown⟩ ?_
  clear c0 lt A
  rintro W ⟨A, hB⟩
  have c0 := A.c0
  have lt := A.lt
  have hne : Nonempty (Later W) := Later.ne W
  go_wp2_with fail
  refine wp_region_later (by kernel_rfl) (by kernel_rfl) ?_
  try dsimp only [List.append]
  repeat (go_big_quiet_step ((go_at_call 15; refine Later.call _ (LE _ (A.below (Subtype.property _))))))
  refine wpQuiet_nil ?_
  rintro w5 ⟨⟨_, hw5⟩, rfl⟩
  replace hB := Below.call hB hB.size hw5
  go_wp2
  go_ret
  exact ⟨rfl, hB⟩
theorem Ag.put {w w1 : World} {ab base : Nat} {m T : Int} {v v1 : Value} {n n1 : Nat} {L R M : List Ent} {x : Ev} (h : Ag w ab base m T v n L R) (k : HS w w1 ab 2 base v v1 n1 M) (hM : Hp M) (pM : List.Perm M (L ++ [⟨x, T⟩])) :
    Ag (w1.setCell ⟨ab, 1, none⟩ (.int .i64 (T + 1))) ab base m (T + 1) v1 n1 M (R ++ [⟨x, T⟩]) :=
  ⟨(World.cell?_setCell_other w1 _ ⟨ab, 0, none⟩ _ (by simp)).trans ((k.kc 0 (by decide)).trans h.c0), World.cell?_setCell_same w1 _ _ ((k.kc 1 (by decide)).trans h.c1), (World.cell?_setCell_other w1 _ ⟨ab, 2, none⟩ _ (by simp)).trans k.p0, (World.cell?_setCell_other w1 _ ⟨ab, 3, none⟩ _ (by simp)).trans k.p1,
    (World.frozen?_setCell _ _ _ _).trans ((k.kf 1).trans h.f1), (World.frozen?_setCell _ _ _ _).trans k.f0, ownsRow_setCell_below k.own h.bb _, h.fit.put x hM pM, by rw [World.size_setCell]; exact k.lt, h.bb, by rw [World.size_setCell]; exact k.sz⟩
set_option maxHeartbeats 4000000 in
set_option maxRecDepth 100000 in
theorem put_room (ab base : Nat) (m T : Int) (ao : Option Addr) (n c : Nat) (L R : List Ent) (x : Ev) (hn : n ≤ 1000) (hm : ¬ m = n) (t0 : 0 ≤ T) (t1 : T ≤ 100000) (w : World) (A : Ag w ab base m T (.slice ao n c) n L R) :
    Calls Try.prog 9 #[.pointer (some ⟨ab, 0, none⟩), .agg #[.int .i64 x.a, .int .i64 x.k, .int .i64 x.o, .int .u64 x.s]] w fun e w' => e = .returned (.int .i64 0) ∧
      ∃ ao' c' L', Ag w' ab base m (T + 1) (.slice ao' (n + 1) c') (n + 1) L' (R ++ [⟨x, T⟩]) ∧ (∀ g, (Value.slice ao' (n + 1) c').ownBlock = some g → (Value.slice ao n c).ownBlock = some g ∨ w.heap.size ≤ g) ∧ Far (ab :: (Value.slice ao n c).ownBlock.toList) w w' := by
  have LE := fun w A => len_any ab base m T (.slice ao n c) n L R (by omega) w A
  have hm1 : ¬ (n : Int) = m := fun e => hm e.symm
  have lt := A.lt
  have c0 := A.c0
  go_enter Try.func9, Try.ntmps9
  go_upto_region 3 with fail
  refine wp_forget (fun W => Ag W ab base m T (.slice ao n c) n L R ∧ At4 W w.heap.size (.int .i64 x.a) (.int .i64 x.k) (.int .i64 x.o) (.int .u64 x.s) ∧ Below w.heap.size w W) ⟨A.alloc _, At4.fresh _ _ _ _ _ _, by go_grown⟩ ?_
  clear c0 A
  rintro W ⟨A, X, hB⟩
  have c0 := A.c0
  have lt2 := A.lt
  have hne : Nonempty (Later W) := Later.ne W
  go_wp2_with fail
  refine wp_region_later (by kernel_rfl) (by kernel_rfl) ?_
  try dsimp only [List.append]
  repeat (go_big_quiet_step ((go_at_call 15; refine Later.call _ (LE _ (A.below (Subtype.property _))))))
  refine wpQuiet_nil ?_
  rintro w5 ⟨⟨_, hw5⟩, rfl⟩
  replace hB := Below.call hB hB.size hw5
  replace A := A.below hw5
  replace X := At4.of hw5 X
  clear hw5 c0 lt2 LE
  obtain ⟨c0, c1, p0, p1, f1, f2⟩ : w5.cell? ⟨ab, 0, none⟩ = some (.int .i64 m) ∧ w5.cell? ⟨ab, 1, none⟩ = some (.int .i64 T) ∧ w5.cell? ⟨ab, 2, none⟩ = some (.slice ao n c) ∧ w5.cell? ⟨ab, 3, none⟩ = some (.func (.func 20) #[] #[]) ∧ w5.frozen? ⟨ab, 1, none⟩ = false ∧ w5.frozen? ⟨ab, 2, none⟩ = false := ⟨A.c0, A.c1, A.p0, A.p1, A.f1, A.f2⟩
  obtain ⟨x0, x1, x2, x3, xa, xb, xc, xd, xl⟩ := id X
  have A2 := A.drew
  have PU := put_any ab 2 base n c ao L ⟨x, T⟩ hn A.fit.hp w5.drew A2.hs
  go_wp2_with fail
  go_region_with (first | (go_at_call 21; refine PU.mono ?_; rintro e w6 ⟨rfl, ao', c', M, hM, PM, HM⟩))
  all_goals
    have A3 := A2.put HM hM PM
    have F3 : Far (ab :: (Value.slice ao n c).ownBlock.toList) w (w6.setCell ⟨ab, 1, none⟩ (.int .i64 (T + 1))) := ((Far.of_below hB).mono (by simp)).drew.trans (HM.far.setCell (.inr (by simp)) _ _)
    have B3 : ∀ g, (Value.slice ao' (n + 1) c').ownBlock = some g → (Value.slice ao n c).ownBlock = some g ∨ w.heap.size ≤ g := fun g hg => (HM.blk g hg).imp id (fun h => Nat.le_trans hB.size h)
    have d1 := (HM.kc 1 (by decide)).trans A2.c1
    have e1 := (HM.kf 1).trans A2.f1
    have l6 := HM.lt
    clear HM PM hM A2 A hB X x0 x1 x2 x3 xa xb xc xd xl c0 c1 p0 p1 f1 f2
    go_wp2_with fail
    go_ret
    exact ⟨rfl, ao', c', M, A3, B3, F3⟩
set_option maxHeartbeats 1000000 in
set_option maxRecDepth 100000 in
theorem next_no (ab base : Nat) (m T : Int) (v : Value) (n : Nat) (L R : List Ent) (t : Int) (hn : n ≤ 100000) (hx : nxb (es R) t = false) (w : World) (A : Ag w ab base m T v n L R) :
    Calls Try.prog 11 #[.pointer (some ⟨ab, 0, none⟩), .int .i64 t] w fun e w' => e = .returned (.tuple #[.agg #[.int .i64 0, .int .i64 0, .int .i64 0, .int .u64 0], .bool false]) ∧ Below w.heap.size w w' := by
  have PE := fun w A => peek_any ab base m T v n L R hn w A
  have hle : (es R).length = n := by rw [es_len]; exact A.len
  have hk : pkb (es R) = true → t < (pke (es R)).a := fun h => by
    unfold pkb at h
    have h' := of_decide_eq_true h
    unfold nxb at hx
    unfold pke
    rw [if_pos h']
    rw [decide_eq_true h', Bool.true_and, decide_eq_false_iff_not] at hx
    omega
  generalize pke (es R) = x at *
  generalize pkb (es R) = v1 at *
  go_enter Try.func11, Try.ntmps11
  go_wp2_with fail
  refine (PE _ (A.alloc _)).mono ?_
  rintro e w1 ⟨rfl, hw1⟩
  have R1 : At4 w1 w.heap.size (.int .i64 0) (.int .i64 0) (.int .i64 0) (.int .u64 0) := At4.of hw1 (by constructor <;> simp [go_sem])
  have hB : Below w.heap.size w w1 := Below.call (by go_grown) (by simp <;> omega) hw1
  clear hw1 PE A
  have l1 := R1.lt
  have Q1 := (R1.put (.int .i64 0) (.int .i64 0) (.int .i64 0) (.int .u64 0)).alloc (.cells #[.int .i64 x.a, .int .i64 x.k, .int .i64 x.o, .int .u64 x.s] 32)
  have r0 := Q1.c0; have r1 := Q1.c1; have r2 := Q1.c2; have r3 := Q1.c3
  clear Q1
  obtain ⟨s0, s1, s2, s3, sa, sb, sc, sd, sl⟩ := id R1
  cases v1
  · go_wp2_with (exact bodyPost_ret (v := .tuple #[.agg #[.int .i64 0, .int .i64 0, .int .i64 0, .int .u64 0], .bool false]) (by simp [results, Try.results11, go_sem, r0, r1, r2, r3]) rfl ⟨rfl, by have := hB.size; go_grown⟩)
  · have ht : t < x.a := hk (by simp)
    go_wp2_with (exact bodyPost_ret (v := .tuple #[.agg #[.int .i64 0, .int .i64 0, .int .i64 0, .int .u64 0], .bool false]) (by simp [results, Try.results11, go_sem, r0, r1, r2, r3]) rfl ⟨rfl, by have := hB.size; go_grown⟩)
set_option maxHeartbeats 4000000 in
set_option maxRecDepth 100000 in
theorem next_yes (ab base : Nat) (m T : Int) (ao : Option Addr) (n c : Nat) (L R : List Ent) (t : Int) (hn : n ≤ 1000) (hx : nxb (es R) t = true) (w : World) (A : Ag w ab base m T (.slice ao n c) n L R) :
    Calls Try.prog 11 #[.pointer (some ⟨ab, 0, none⟩), .int .i64 t] w fun e w' => e = .returned (.tuple #[.agg #[.int .i64 ((me (es R) 0)).a, .int .i64 ((me (es R) 0)).k, .int .i64 ((me (es R) 0)).o, .int .u64 ((me (es R) 0)).s], .bool true]) ∧
      ∃ L', Ag w' ab base m T (.slice ao (n - 1) c) (n - 1) L' (R.eraseIdx (mi (es R))) ∧ Far (ab :: (Value.slice ao n c).ownBlock.toList) w w' := by
  have PE := fun w A => peek_any ab base m T (.slice ao n c) n L R (by omega) w A
  have hle : (es R).length = n := by rw [es_len]; exact A.len
  have hx' : 0 < n ∧ (me (es R) 0).a ≤ t := by
    unfold nxb at hx
    rw [Bool.and_eq_true, decide_eq_true_iff, decide_eq_true_iff, hle] at hx
    exact hx
  obtain ⟨h0, ht⟩ := hx'
  have hk : pke (es R) = me (es R) 0 := by unfold pke; rw [if_pos (by omega)]
  have hb : pkb (es R) = true := by unfold pkb; exact decide_eq_true (by omega)
  rw [hk, hb] at PE
  clear hk hb hx
  obtain ⟨k, rfl⟩ : ∃ k, n = k + 1 := ⟨n - 1, by omega⟩
  obtain ⟨g, rfl, hgb, hgw, _, _⟩ := own_some A.own h0
  have TA := fun w A2 => take_any ab 2 base g k c L (by omega) A.fit.hp w A2
  have bb := A.bb
  have hlt := A.lt
  have FT := fun M hM PM => A.fit.take (L' := M) (by have := A.len; omega) hM PM
  obtain ⟨x, hxx⟩ : ∃ x, Hid (me (es R) 0 = x) := ⟨_, rfl⟩
  rw [hxx.out] at ht PE
  go_enter Try.func11, Try.ntmps11
  go_wp2_with fail
  refine (PE _ (A.alloc _)).mono ?_
  rintro e w1 ⟨rfl, hw1⟩
  have R1 : At4 w1 w.heap.size (.int .i64 0) (.int .i64 0) (.int .i64 0) (.int .u64 0) := At4.of hw1 (by constructor <;> simp [go_sem])
  have hB : Below w.heap.size w w1 := Below.call (by go_grown) (by simp <;> omega) hw1
  have A1 := (A.alloc (.cells #[.int .i64 0, .int .i64 0, .int .i64 0, .int .u64 0] 32)).below hw1
  clear hw1 PE A
  have A2 := A1.alloc (.cells #[.int .i64 x.a, .int .i64 x.k, .int .i64 x.o, .int .u64 x.s] 32)
  have R2 := R1.alloc (.cells #[.int .i64 x.a, .int .i64 x.k, .int .i64 x.o, .int .u64 x.s] 32)
  have X2 := At4.fresh w1 (.int .i64 x.a) (.int .i64 x.k) (.int .i64 x.o) (.int .u64 x.s) 32
  have l1 := R1.lt
  have hsz := hB.size
  have la : ab < w1.heap.size := A1.lt
  go_wp2_with fail
  refine (TA _ A2.hs).mono ?_
  rintro e w3 ⟨rfl, M, hM, PM, HM⟩
  have A3 := A2.of_hs HM (FT M hM PM)
  have hS : (Value.slice (some ⟨g, 0, none⟩) (k + 1) c).ownBlock.toList = [g] := rfl
  have F3 := HM.far
  rw [hS] at F3
  have R3 := F3.at4 R2 (by simp; omega)
  have X3 := F3.at4 X2 (by simp; omega)
  have F4 : Far (ab :: [g]) w w3 := ((Far.of_below hB).mono (by simp)).trans (((Far.refl _ _).alloc _).trans F3)
  have hsz3 := F4.size
  obtain ⟨r0, r1, r2, r3⟩ := R3.outs (.int .i64 x.a) (.int .i64 x.k) (.int .i64 x.o) (.int .u64 x.s)
  obtain ⟨s0, s1, s2, s3, sa, sb, sc, sd, sl⟩ := id R3
  obtain ⟨z0, z1, z2, z3, za, zb, zc, zd, zl⟩ := id X3
  have F5 : Far [w.heap.size] w3 ((((w3.setCell ⟨w.heap.size, 0, none⟩ (.int .i64 x.a)).setCell ⟨w.heap.size, 1, none⟩ (.int .i64 x.k)).setCell ⟨w.heap.size, 2, none⟩ (.int .i64 x.o)).setCell ⟨w.heap.size, 3, none⟩ (.int .u64 x.s)) := ((((Far.refl _ _).setCell (.inr (by simp)) _ _).setCell (.inr (by simp)) _ _).setCell (.inr (by simp)) _ _).setCell (.inr (by simp)) _ _
  have A4 := A3.far F5 (by simp; omega) (fun j hj => by
    have hj2 : g = j := by simpa [Value.ownBlock] using hj
    simp; omega)
  have F6 := F4.then F5 (fun b hb => .inr (by simp at hb; omega))
  clear HM PM hM A1 A2 A3 F3 F4 F5 FT TA R1 R2 X2 R3 X3 hB
  go_wp2_with (exact bodyPost_ret (v := .tuple #[.agg #[.int .i64 x.a, .int .i64 x.k, .int .i64 x.o, .int .u64 x.s], .bool true]) (by simp [results, Try.results11, go_sem, r0, r1, r2, r3]) rfl ⟨by rw [hxx.out], M, A4, F6⟩)
end Go.Proofs.Ytoonffglkadofaa
