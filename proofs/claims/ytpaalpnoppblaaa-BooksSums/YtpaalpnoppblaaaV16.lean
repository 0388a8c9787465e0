/-
  The program's ledger: made; a packet sent, taken. No conditions but a ledger's own.
-/
import Derived.Test.YtpaalpnoppblaaaV15
import Derived.Test.YtpaalpnoppblaaaHT
namespace Go.Proofs.Ytpaalpnoppblaaa
open Go.RowKit Go.Maps
set_option linter.unusedVariables false
theorem within_t (n a b : Int) (h1 : a ≤ n) (h2 : n ≤ b) (w : World) : Calls Try.prog 46 #[.int .i64 n, .int .i64 a, .int .i64 b] w fun e w' => e = .returned (.bool true) ∧ w' = w :=
  (lwithin_any n a b w).mono fun e w' ⟨h, h'⟩ => ⟨by rw [h, decide_eq_true ⟨h1, h2⟩], h'⟩
theorem within_f (n a b : Int) (h : n < a ∨ b < n) (w : World) : Calls Try.prog 46 #[.int .i64 n, .int .i64 a, .int .i64 b] w fun e w' => e = .returned (.bool false) ∧ w' = w :=
  (lwithin_any n a b w).mono fun e w' ⟨h1, h'⟩ => ⟨by rw [h1, decide_eq_false (by omega)], h'⟩
set_option maxHeartbeats 1000000 in
theorem refuses_any (lb mb : Nat) (s : Lg) (hs : s.ok) (mi size at' : Int) (w : World) (H : Led w lb mb s) :
    Calls Try.prog 88 #[.pointer (some ⟨lb, 0, none⟩), .int .i64 mi, .int .i64 size, .int .i64 at'] w fun e w' => e = .returned (.int .i64 (refv s mi size at')) ∧ ∃ q, w' = w.drewN q := by
  obtain ⟨c0, c1, c2, c3, c4, c5, f⟩ := H.cells
  have hr0 := hs.r0; have hr1 := hs.r1; have hlen := hs.len; have hl0 := hs.l0; have hl1 := hs.l1; have hn1 := hs.n1
  obtain ⟨r, hr⟩ : ∃ r, r = refv s mi size at' := ⟨_, rfl⟩
  rw [← hr]
  have HR : Hid (r = refv s mi size at') := hr
  clear hr
  go_enter Try.func88, Try.ntmps88
  by_cases h1 : mi < 0
  · have e := HR.out
    unfold refv at e; rw [if_pos h1] at e; subst e
    go_wp2
    go_ret
    exact ⟨rfl, 0, rfl⟩
  · by_cases h2 : size < 1 ∨ 9000 < size
    · have e := HR.out
      unfold refv at e; rw [if_neg h1, if_pos h2] at e; subst e
      go_wp2_with fail
      refine (within_f _ _ _ h2 _).mono ?_
      rintro e w' ⟨rfl, rfl⟩
      go_wp2_with fail
      go_ret
      exact ⟨rfl, 0, rfl⟩
    · have h2' : 1 ≤ size ∧ size ≤ 9000 := by omega
      by_cases h3 : at' < s.last ∨ 1099511627776 < at'
      · have e := HR.out
        unfold refv at e; rw [if_neg h1, if_neg h2, if_pos h3] at e; subst e
        go_wp2_with fail
        refine (within_t _ _ _ h2'.1 h2'.2 _).mono ?_
        rintro e w' ⟨rfl, rfl⟩
        go_wp2_with fail
        refine (within_f _ _ _ h3 _).mono ?_
        rintro e w' ⟨rfl, rfl⟩
        go_wp2_with fail
        go_ret
        exact ⟨rfl, 0, rfl⟩
      · have h3' : s.last ≤ at' ∧ at' ≤ 1099511627776 := by omega
        by_cases h4 : (s.L.length : Int) = s.room
        · have e := HR.out
          unfold refv at e; rw [if_neg h1, if_neg h2, if_neg h3, if_pos h4] at e; subst e
          have h4' : s.room - (s.L.length : Int) = 0 := by omega
          clear h4
          go_wp2_with fail
          refine (within_t _ _ _ h2'.1 h2'.2 _).mono ?_
          rintro e w' ⟨rfl, rfl⟩
          go_wp2_with fail
          refine (within_t _ _ _ h3'.1 h3'.2 _).mono ?_
          rintro e w' ⟨rfl, rfl⟩
          go_wp2_with fail
          refine (free_any lb mb s hs _ H).mono ?_
          rintro e w' ⟨rfl, q, rfl⟩
          rw [h4']
          go_wp2_with fail
          go_ret
          exact ⟨rfl, q, rfl⟩
        · have h4' : ¬ s.room - (s.L.length : Int) = 0 := by omega
          by_cases h5 : s.next = 18446744073709551615
          · have e := HR.out
            unfold refv at e; rw [if_neg h1, if_neg h2, if_neg h3, if_neg h4, if_pos h5] at e; subst e
            go_wp2_with fail
            refine (within_t _ _ _ h2'.1 h2'.2 _).mono ?_
            rintro e w' ⟨rfl, rfl⟩
            go_wp2_with fail
            refine (within_t _ _ _ h3'.1 h3'.2 _).mono ?_
            rintro e w' ⟨rfl, rfl⟩
            go_wp2_with fail
            refine (free_any lb mb s hs _ H).mono ?_
            rintro e w' ⟨rfl, q, rfl⟩
            go_wp2_with fail
            go_ret
            exact ⟨rfl, q, rfl⟩
          · have e := HR.out
            unfold refv at e; rw [if_neg h1, if_neg h2, if_neg h3, if_neg h4, if_neg h5] at e; subst e
            go_wp2_with fail
            refine (within_t _ _ _ h2'.1 h2'.2 _).mono ?_
            rintro e w' ⟨rfl, rfl⟩
            go_wp2_with fail
            refine (within_t _ _ _ h3'.1 h3'.2 _).mono ?_
            rintro e w' ⟨rfl, rfl⟩
            go_wp2_with fail
            refine (free_any lb mb s hs _ H).mono ?_
            rintro e w' ⟨rfl, q, rfl⟩
            go_wp2_with fail
            go_ret
            exact ⟨rfl, q, rfl⟩
set_option maxHeartbeats 1000000 in
theorem new_no (room first : Int) (h : room < 1 ∨ 4096 < room) (w : World) : Calls Try.prog 22 #[.int .i64 room, .int .u64 first] w fun e w' => e = .returned (.tuple #[.pointer none, .int .i64 1]) ∧ Below w.heap.size w w' := by
  go_enter Try.func22, Try.ntmps22
  go_wp2_with fail
  refine (within_f _ _ _ h _).mono ?_
  rintro e w' ⟨rfl, rfl⟩
  go_wp2_with fail
  go_ret2
  exact ⟨rfl, by go_grown⟩
set_option maxHeartbeats 1000000 in
theorem new_yes (room first : Int) (h0 : 1 ≤ room) (h1 : room ≤ 4096) (f0 : 0 ≤ first) (f1 : first ≤ 18446744073709551615) (w : World) : Calls Try.prog 22 #[.int .i64 room, .int .u64 first] w fun e w' =>
    ∃ lb mb, e = .returned (.tuple #[.pointer (some ⟨lb, 0, none⟩), .int .i64 0]) ∧ Led w' lb mb ⟨room, first, first, first, 0, []⟩ ∧ w.heap.size ≤ lb ∧ w.heap.size ≤ mb ∧ Below w.heap.size w w' := by
  go_enter Try.func22, Try.ntmps22
  go_wp2_with fail
  refine (within_t _ _ _ h0 h1 _).mono ?_
  rintro e w' ⟨rfl, rfl⟩
  have hmk := run_makeMap (P := Try.prog) (t := 91) w'
  go_wp2_with fail
  go_ret2
  have e0 := Ob.fresh (w'.alloc (.map #[] 0)) #[.int .i64 room, .map (some w'.heap.size), .int .u64 first, .int .u64 first, .int .u64 first, .int .i64 0] 93
  have M := (MapOf.new w')
  refine ⟨w'.heap.size + 1, w'.heap.size, by simp, ⟨?_, ?_, by omega⟩, by omega, by omega, by go_grown⟩
  · rw [World.size_alloc] at e0; exact e0
  · exact M.far ((Far.refl [] _).alloc _) (by simp)
set_option maxHeartbeats 400000 in
theorem sent_any (lb mb : Nat) (s : Lg) (x : Int) (w : World) (H : Led w lb mb s) : Calls Try.prog 89 #[.pointer (some ⟨lb, 0, none⟩), .int .u64 x] w fun e w' => e = .returned (.bool (decide (¬ (x < s.first ∨ s.next ≤ x)))) ∧ ∃ q, w' = w.drewN q := by
  obtain ⟨c0, c1, c2, c3, c4, c5, f⟩ := H.cells
  go_enter Try.func89, Try.ntmps89
  by_cases h : s.first ≤ x
  · go_wp2_with fail
    first | go_quiet (fail) | skip
    go_wp2_with fail
    go_ret
    exact ⟨by simp [h], by first | exact ⟨_, rfl⟩ | exact ⟨0, rfl⟩⟩
  · have h' : decide (s.first ≤ x) = false := decide_eq_false h
    go_wp2_with fail
    first | go_quiet (fail) | skip
    go_wp2_with fail
    go_ret
    exact ⟨by simp <;> omega, by first | exact ⟨_, rfl⟩ | exact ⟨0, rfl⟩⟩
theorem lcells_sent (s : Lg) (mb : Nat) (mi size at' : Int) (h : refv s mi size at' = 0) : lcells (sentL s mi size at') mb = [.int .i64 s.room, .map (some mb), .int .u64 s.first, .int .u64 (s.next + 1), .int .u64 s.oldest, .int .i64 at'] := by
  unfold sentL; rw [if_pos h]; rfl
set_option maxHeartbeats 1000000 in
theorem send_any (lb mb : Nat) (s : Lg) (hs : s.ok) (mi size at' : Int) (w : World) (H : Led w lb mb s) :
    Calls Try.prog 65 #[.pointer (some ⟨lb, 0, none⟩), .int .i64 mi, .int .i64 size, .int .i64 at'] w fun e w' =>
      e = .returned (.tuple #[.int .u64 (seqv s mi size at'), .int .i64 (refv s mi size at')]) ∧ Led w' lb mb (sentL s mi size at') ∧ Far [lb, mb] w w' := by
  go_enter Try.func65, Try.ntmps65
  go_wp2_with fail
  refine (refuses_any lb mb s hs mi size at' _ H).mono ?_
  rintro e w' ⟨rfl, q, rfl⟩
  have H1 := H.drewN q
  have F1 : Far [lb, mb] w (w.drewN q) := (Far.refl _ w).drewN q
  by_cases h : refv s mi size at' = 0
  · have HL := lcells_sent s mb mi size at' h
    have hL2 : (sentL s mi size at').L = s.L ++ [⟨s.next, mi, size, at'⟩] := by unfold sentL; rw [if_pos h]
    have hsv : seqv s mi size at' = s.next := by unfold seqv; rw [if_pos h]
    obtain ⟨a, b, c, d, e, f, g⟩ := refv_0 h
    have hn1 := hs.n1; have hf0 := hs.f0; have hfo := hs.fo; have hon := hs.on; have hlen := hs.len; have hr1 := hs.r1
    generalize w.drewN q = w1 at H1 F1 ⊢
    obtain ⟨c0, c1, c2, c3, c4, c5, fz⟩ := H1.cells
    obtain ⟨w2, hput, M2, g2⟩ := put_run H1.map (by omega) ⟨s.next, mi, size, at'⟩ (by show 0 ≤ s.next; omega) hn1 (by
      rw [Bool.eq_false_iff]; intro h1
      obtain ⟨p, hp, he⟩ := List.any_eq_true.1 h1
      have := (hs.inn p hp).2
      simp [isq] at he; omega)
    have ne := H1.ne
    have G2 : Far [mb] w1 w2 := (Far.refl _ _).grown g2 (fun j e => by cases e; right; simp)
    have O2 := H1.ob.far G2 (by simpa using ne)
    have d3 : w2.cell? ⟨lb, 3, none⟩ = some (.int .u64 s.next) := O2.cell rfl
    have d5 : w2.cell? ⟨lb, 5, none⟩ = some (.int .i64 s.last) := O2.cell rfl
    have f2 := O2.f
    have T1 := Turn.cell O2 (o := 3) (v := .int .u64 (s.next + 1)) (us := [.int .i64 s.room, .map (some mb), .int .u64 s.first, .int .u64 (s.next + 1), .int .u64 s.oldest, .int .i64 s.last]) (by repeat (first | exact SetAt.z | apply SetAt.s))
    have T2 := Turn.cell T1.here (o := 5) (v := .int .i64 at') (us := [.int .i64 s.room, .map (some mb), .int .u64 s.first, .int .u64 (s.next + 1), .int .u64 s.oldest, .int .i64 at']) (by repeat (first | exact SetAt.z | apply SetAt.s))
    have F2 : Far [lb, mb] w ((w2.setCell ⟨lb, 3, none⟩ (.int .u64 (s.next + 1))).setCell ⟨lb, 5, none⟩ (.int .i64 at')) :=
      (((F1.trans (G2.mono (by simp))).setCell (.inr (by simp)) _ _).setCell (.inr (by simp)) _ _)
    have M3 : MapOf ((w2.setCell ⟨lb, 3, none⟩ (.int .u64 (s.next + 1))).setCell ⟨lb, 5, none⟩ (.int .i64 at')) mb (sentL s mi size at').L := by
      rw [hL2]
      exact M2.far (((Far.refl [lb] w2).setCell (.inr (by simp)) _ _).setCell (.inr (by simp)) _ _) (by simpa using ne.symm)
    have OB := T2.here
    rw [← lcells_sent s mb mi size at' h] at OB
    have HH : Hid (refv s mi size at' = 0) := h
    have HS : Hid (seqv s mi size at' = s.next) := hsv
    rw [h]
    clear h hsv hL2 H H1 M2 g2 G2 F1 T1 T2
    go_wp2_with fail
    go_ret2
    exact ⟨by rw [HH.out, HS.out]; rfl, ⟨OB, M3, ne⟩, F2⟩
  · have hL2 : sentL s mi size at' = s := by unfold sentL; rw [if_neg h]
    have hsv : seqv s mi size at' = 0 := by unfold seqv; rw [if_neg h]
    have HS : Hid (seqv s mi size at' = 0) := hsv
    have HL : Hid (sentL s mi size at' = s) := hL2
    clear hsv hL2
    go_wp2_with fail
    go_ret2
    exact ⟨by rw [HS.out]; rfl, by rw [HL.out]; exact H1, F1⟩
end Go.Proofs.Ytpaalpnoppblaaa
