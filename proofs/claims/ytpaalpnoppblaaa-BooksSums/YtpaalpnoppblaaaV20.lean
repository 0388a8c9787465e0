/-
  The program's ledger: what expires. No conditions but a ledger's own.
-/
import Derived.Test.YtpaalpnoppblaaaV19
namespace Go.Proofs.Ytpaalpnoppblaaa
open Go.RowKit Go.Maps Go.MapKept Go.ChangeMaps
set_option linter.unusedVariables false
set_option maxRecDepth 8000
theorem own_base4 {w : World} {base base' : Nat} {e : TypeId} {size : Nat} {v : Value} {n : Nat} {xs : List Value} (h : w.ownsRow base e size v n xs) (hb : base' ≤ base) : w.ownsRow base' e size v n xs := by
  refine ⟨h.1, ?_⟩
  rcases h.2 with hn | ⟨g, cap, cur, rfl, hg, r⟩
  · exact .inl hn
  · exact .inr ⟨g, cap, cur, rfl, Nat.le_trans hb hg, r⟩
theorem own_far {S : List Nat} {w w1 : World} {base : Nat} {e : TypeId} {size : Nat} {v : Value} {n : Nat} {xs : List Value} (h : w.ownsRow base e size v n xs) (k : Far S w w1) (hS : ∀ b ∈ S, b < base) : w1.ownsRow base e size v n xs := by
  refine ⟨h.1, ?_⟩
  rcases h.2 with hn | ⟨g, cap, cur, rfl, hg, hb, r⟩
  · exact .inl hn
  · exact .inr ⟨g, cap, cur, rfl, hg, (k.block g (Array.getElem?_eq_some_iff.1 hb).1 (fun hm => by have := hS g hm; omega)).trans hb, r⟩
theorem any_none {R : List Pt} {o : Int} (h : ∀ p ∈ R, p.seq ≠ o) : R.any (isq o) = false := by
  rw [Bool.eq_false_iff]; intro h1
  obtain ⟨p, hp, he⟩ := List.any_eq_true.1 h1
  exact h p hp (by simpa [isq] using he)
theorem any_head {q : Pt} {R : List Pt} {o : Int} (h : q.seq = o) : (q :: R).any (isq o) = true ∧ foundP (q :: R) o = q := by
  have : isq o q = true := by simp [isq, h]
  exact ⟨by simp [this], by simp [foundP, this]⟩
theorem without_head {q : Pt} {R : List Pt} {o : Int} (h : q.seq = o) (hu : (q :: R).Pairwise (fun p q => p.seq < q.seq)) : without (q :: R) o = R := by
  have h1 : isq o q = true := by simp [isq, h]
  unfold without
  rw [List.filter_cons, h1]
  simp only [Bool.not_true, Bool.false_eq_true, if_false]
  exact List.filter_eq_self.2 fun p hp => by
    have := (List.pairwise_cons.1 hu).1 p hp
    simp [isq]; omega
theorem wrap_sub {a t : Int} (a0 : -9223372036854775808 ≤ a) (a1 : a ≤ 9223372036854775807) (t0 : -9223372036854775808 ≤ t) (t1 : t ≤ 9223372036854775807) (h : t ≤ a) : IntKind.u64.wrap (IntKind.u64.wrap a - IntKind.u64.wrap t) = a - t := by
  rw [IntKind.wrap_u64, IntKind.wrap_u64, IntKind.wrap_u64]; omega
theorem filter_split {at' td : Int} {E R : List Pt} (hE : ∀ p ∈ E, p.sent ≤ at' - td) (hR : ∀ p ∈ R, ¬ p.sent ≤ at' - td) : (E ++ R).filter (isover at' td) = E ∧ (E ++ R).filter (fun p => !isover at' td p) = R := by
  constructor
  · rw [List.filter_append, List.filter_eq_self.2 (fun p hp => by simp [isover, hE p hp]), List.filter_eq_nil_iff.2 (fun p hp => by simp [isover]; exact Int.not_le.1 (hR p hp)), List.append_nil]
  · rw [List.filter_append, List.filter_eq_nil_iff.2 (fun p hp => by simp [isover, hE p hp]), List.filter_eq_self.2 (fun p hp => by simp [isover]; exact Int.not_le.1 (hR p hp)), List.nil_append]
theorem rest_ok {s : Lg} (h : s.ok) {E R : List Pt} (e : s.L = E ++ R) {o : Int} (h1 : s.first ≤ o) (h2 : o ≤ s.next) (h3 : ∀ p ∈ R, o ≤ p.seq) : ({ s with oldest := o, L := R } : Lg).ok := by
  have hs : R.Sublist s.L := by rw [e]; exact List.sublist_append_right _ _
  have hm : ∀ p ∈ R, p ∈ s.L := fun p hp => hs.subset hp
  have := hs.length_le
  have := h.len
  exact ⟨h.r0, h.r1, by show (R.length : Int) ≤ s.room; omega, h.f0, h1, h2, h.n1, h.up.sublist hs, fun p hp => ⟨h3 p hp, (h.inn p (hm p hp)).2⟩, h.tm.sublist hs, fun p hp => h.tb p (hm p hp), h.l0, h.l1, fun p hp => h.sz p (hm p hp)⟩
theorem head_of {R : List Pt} {o : Int} (hu : R.Pairwise (fun p q => p.seq < q.seq)) (hR : ∀ p ∈ R, o ≤ p.seq) (h : R.any (isq o) = true) : ∃ R', R = foundP R o :: R' ∧ (foundP R o).seq = o := by
  cases R with
  | nil => simp at h
  | cons q R =>
    by_cases e : q.seq = o
    · exact ⟨R, by rw [(any_head e).2], by rw [(any_head e).2]; exact e⟩
    · exfalso
      obtain ⟨p, hp, he⟩ := List.any_eq_true.1 h
      have he' : p.seq = o := by simpa [isq] using he
      have h1 := hR q (by simp)
      rcases List.mem_cons.1 hp with rfl | hp
      · exact e he'
      · have := (List.pairwise_cons.1 hu).1 p hp; omega
theorem Led.step {w : World} {lb mb : Nat} {s : Lg} (h : Led w lb mb s) (o : Int) : Led (w.setCell ⟨lb, 4, none⟩ (.int .u64 o)) lb mb { s with oldest := o } := by
  refine ⟨(Turn.cell h.ob (o := 4) (v := .int .u64 o) (us := lcells { s with oldest := o } mb) ?_).here, h.map.far ((Far.refl [lb] w).setCell (.inr (by simp)) _ _) (by simpa using h.ne.symm), h.ne⟩
  unfold lcells
  repeat (first | exact SetAt.z | apply SetAt.s)
theorem Led.app {w w1 : World} {lb mb B : Nat} {s : Lg} {row : Option Nat} (h : Led w lb mb s) (g : w.grownBy w1 row) (hr : ∀ j, row = some j → B ≤ j) (h1 : lb < B) (h2 : mb < B) : Led w1 lb mb s :=
  h.far (S := row.toList) ((Far.refl _ w).grown g (fun j e => .inr (by simp [e]))) (fun hm => by simp at hm; have := hr _ hm; omega) (fun hm => by simp at hm; have := hr _ hm; omega)
set_option maxHeartbeats 4000000 in
theorem expire_any (lb mb : Nat) (s : Lg) (hs : s.ok) (at' td : Int) (a0 : -9223372036854775808 ≤ at') (a1 : at' ≤ 9223372036854775807) (t0 : -9223372036854775808 ≤ td) (t1 : td ≤ 9223372036854775807) (w : World) (HL : Led w lb mb s) :
    Calls Try.prog 68 #[.pointer (some ⟨lb, 0, none⟩), .int .i64 at', .int .i64 td] w fun e w' =>
      ∃ v, e = .returned v ∧ w'.ownsRow w.heap.size 57 4 v (s.L.filter (isover at' td)).length (pcs (s.L.filter (isover at' td))) ∧
        (∃ o, Led w' lb mb { s with oldest := o, L := s.L.filter (fun p => !isover at' td p) } ∧ ({ s with oldest := o, L := s.L.filter (fun p => !isover at' td p) } : Lg).ok) ∧ Far [lb, mb] w w' := by
  have hlt := HL.ob.lt
  have hmt := HL.map.lt
  by_cases h0 : at' < td
  · have hR : ∀ p ∈ s.L, ¬ p.sent ≤ at' - td := fun p hp => by have := (hs.tb p hp).1; omega
    obtain ⟨e1, e2⟩ := filter_split (E := []) (by simp) hR
    rw [List.nil_append] at e1 e2
    have E1 : Hid (s.L.filter (isover at' td) = []) := e1
    have E2 : Hid (s.L.filter (fun p => !isover at' td p) = s.L) := e2
    clear e1 e2
    go_enter Try.func68, Try.ntmps68
    go_wp2_with fail
    go_ret
    refine ⟨_, rfl, ?_, ⟨s.oldest, ?_⟩, Far.refl _ _⟩
    · rw [E1.out]; exact World.ownsRow_nil _ _ _ _
    · rw [E2.out]; exact ⟨HL, hs⟩
  · have hw := wrap_sub a0 a1 t0 t1 (by omega)
    obtain ⟨lim, hlim⟩ : ∃ lim, at' - td = lim := ⟨_, rfl⟩
    rw [hlim] at hw
    have HLIM : Hid (at' - td = lim) := hlim
    have l0 : 0 ≤ lim := by omega
    have l1 : lim ≤ 18446744073709551615 := by omega
    clear hlim
    obtain ⟨i0, hi, hz0, hz1, hz2⟩ := info_parts infoP
    have hn1 := hs.n1; have hf0 := hs.f0; have hfo := hs.fo; have hon := hs.on; have hlen := hs.len; have hr1 := hs.r1
    go_enter Try.func68, Try.ntmps68
    go_wp2_with fail
    go_loopg [8] (s.next - s.oldest).toNat (fun k v8 wr => ∃ (o : Int) (E R : List Pt), s.L = E ++ R ∧ (∀ p ∈ E, p.sent ≤ lim) ∧ (∀ p ∈ R, o ≤ p.seq) ∧ s.oldest ≤ o ∧ o ≤ s.next ∧ (s.next - o).toNat ≤ k ∧
      wr.ownsRow w.heap.size 57 4 v8 E.length (pcs E) ∧ Led wr lb mb { s with oldest := o, L := R } ∧ Far [lb, mb] w wr)
    case atStart => exact ⟨s.oldest, [], s.L, rfl, by simp, fun p hp => (hs.inn p hp).1, Int.le_refl _, hon, Nat.le_refl _, World.ownsRow_nil _ _ _ _, HL, Far.refl _ _⟩
    case round =>
      obtain ⟨o, E, R, hER, hE, hR, ho1, ho2, hk, own, HLr, hF⟩ := hrel
      have hok := rest_ok hs hER (by omega) ho2 hR
      have HER : Hid (s.L = E ++ R) := hER
      clear hER
      have hup := hok.up
      have hgo : ∀ (M : List Pt), s.L.filter (isover at' td) = E → s.L.filter (fun p => !isover at' td p) = M → True := fun _ _ _ => trivial
      obtain ⟨c0, c1, c2, c3, c4, c5, fz⟩ := HLr.cells
      -- out of the loop: nothing that is left is over
      have out : (∀ p ∈ R, ¬ p.sent ≤ lim) → ∀ W v8, W.ownsRow w.heap.size 57 4 v8 E.length (pcs E) → Led W lb mb { s with oldest := o, L := R } → Far [lb, mb] w W →
          W.ownsRow w.heap.size 57 4 v8 (s.L.filter (isover at' td)).length (pcs (s.L.filter (isover at' td))) ∧ (∃ o, Led W lb mb { s with oldest := o, L := s.L.filter (fun p => !isover at' td p) } ∧ ({ s with oldest := o, L := s.L.filter (fun p => !isover at' td p) } : Lg).ok) ∧ Far [lb, mb] w W := fun hno W v8 h1 h2 h3 => by
        obtain ⟨e1, e2⟩ := filter_split (at' := at') (td := td) (E := E) (R := R) (by rw [HLIM.out]; exact hE) (by rw [HLIM.out]; exact hno)
        rw [HER.out, e1, e2]
        exact ⟨h1, ⟨o, h2, hok⟩, h3⟩
      have OUT : Hid _ := out
      clear out hgo
      by_cases hon2 : o < s.next
      · go_wp2_with fail
        go_quiet (fail)
        have HLq := HLr.drewN nq
        have hFq := hF.drewN nq
        have ownq := own_far own ((Far.refl [] wr).drewN nq) (by simp)
        generalize wr.drewN nq = W1 at *
        have hsz := hFq.size
        obtain ⟨P, hP⟩ : ∃ P, foundP R o = P := ⟨_, rfl⟩
        have HP : Hid (foundP R o = P) := hP
        clear hP
        go_upto_region 7 with fail
        go_cut [9, 10] (fun s9 s10 wx => ∃ b, s9 = .pointer (some ⟨b, 0, none⟩) ∧ s10 = .bool (R.any (isq o)) ∧ Ob wx b (pc P) ∧ w.heap.size ≤ b ∧ Led wx lb mb { s with oldest := o, L := R } ∧ Far [lb, mb] w wx ∧
          wx.ownsRow w.heap.size 57 4 u8 E.length (pcs E) ∧ some b ≠ u8.ownBlock)
        case first =>
          obtain ⟨d0, d1, d2, d3, d4, d5, fz⟩ := HLq.cells
          have hlk := look_run HLq.map.drew (k := o) (by omega) (by omega)
          rw [show ({ s with oldest := o, L := R } : Lg).L = R from rfl, HP.out] at hlk
          have hlW := HLq.ob.lt
          have Z : Obj := .cells #[.int .u64 0, .int .i64 0, .int .i64 0, .int .i64 0] 57
          have M2 : MapOf (W1.alloc (.cells #[.int .u64 0, .int .i64 0, .int .i64 0, .int .i64 0] 57)).drew mb R := HLq.map.far (((Far.refl [] W1).alloc _).drew) (by simp)
          have hlk2 := look_run M2 (k := o) (by omega) (by omega)
          rw [HP.out] at hlk2
          clear M2 Z
          go_region
          all_goals go_wp2_with fail
          all_goals go_meet
          all_goals exact ⟨W1.heap.size, rfl, rfl, (Ob.fresh W1 #[.int .u64 P.seq, .int .i64 P.mi, .int .i64 P.size, .int .i64 P.sent] 57).far (((Far.refl [] _).drew)) (by simp), hsz, HLq.far (((Far.refl [] W1).alloc _).drew) (by simp) (by simp), (hFq.alloc _).drew, own_far ownq (((Far.refl [] W1).alloc _).drew) (by simp), fun e => by have := (ownq.lt _ e.symm).2; omega⟩
        case rest =>
          obtain ⟨b, rfl, rfl, hOb, hbw, HLc, hFc, ownc, hbne⟩ := hcut
          clear HLq hFq ownq HLr hF own c0 c1 c2 c3 c4 c5 fz hsz
          cases hany : R.any (isq o)
          · have hR' : ∀ p ∈ R, o + 1 ≤ p.seq := fun p hp => by have := hR p hp; have := any_seq hany p hp; omega
            obtain ⟨d0, d1, d2, d3, d4, d5, fz⟩ := HLc.cells
            have HL2 := HLc.step (o + 1)
            have hF2 := hFc.setCell (b := lb) (.inr (by simp)) 4 (.int .u64 (o + 1))
            have own2 := own_far ownc ((Far.refl [lb] wc).setCell (b := lb) (.inr (by simp)) 4 (.int .u64 (o + 1))) (by simpa using hlt)
            go_wp2_with fail
            go_roundg (s.next - (o + 1)).toNat
            case rel => exact ⟨o + 1, E, R, HER.out, hE, hR', by omega, by omega, Nat.le_refl _, own2, HL2, hF2⟩
            case measure => omega
          · obtain ⟨R', hR1, hPo⟩ := head_of hup hR hany
            rw [HP.out] at hR1 hPo
            have HR1 : Hid (R = P :: R') := hR1
            have HPo : Hid (P.seq = o) := hPo
            clear hR1 hPo
            have hPm : P ∈ R := by rw [HR1.out]; simp
            have hPb := hok.tb P hPm
            have hPl := hs.l1
            have hPb1 : P.sent ≤ s.last := hPb.2
            have hPb0 := hPb.1
            have e3 : wc.cell? ⟨b, 3, none⟩ = some (.int .i64 P.sent) := hOb.cell rfl
            by_cases hov : P.sent ≤ lim
            · obtain ⟨d0, d1, d2, d3, d4, d5, fz⟩ := HLc.cells
              have hpo : 0 ≤ o ∧ o ≤ 18446744073709551615 := by omega
              obtain ⟨w2, hdel, M2, g2⟩ := del_run (HLc.map.drew) hup (k := o) hpo.1 hpo.2 hany 0
              have hwo : without R o = R' := by rw [HR1.out]; exact without_head HPo.out (by rw [← HR1.out]; exact hup)
              have hlb : lb ≠ mb := HLc.ne
              have F2 : Far [mb] wc w2 := ((Far.refl [mb] wc).drew).grown g2 (fun j e => by cases e; right; simp)
              rw [show ({ s with oldest := o, L := R } : Lg).L = R from rfl, hwo] at M2
              have HL2 : Led w2 lb mb { s with oldest := o, L := R' } := ⟨HLc.ob.far F2 (by simpa using hlb), M2, hlb⟩
              have hO2 := hOb.far F2 (by simp; omega)
              have own2 := own_far ownc F2 (by simpa using hmt)
              have hF2 : Far [lb, mb] w w2 := hFc.trans (F2.mono (by simp))
              have hs2 := hF2.size
              clear F2 M2 g2 hwo
              go_upto_region 10 with fail
              go_cut [] (fun wx => wx = w2)
              case first =>
                go_region
                all_goals go_wp2_with fail
                all_goals go_meet
                all_goals rfl
              case rest =>
                subst hcut
                have q0 : wc.cell? ⟨b, 0, none⟩ = some (.int .u64 P.seq) := hO2.cell rfl
                have q1 : wc.cell? ⟨b, 1, none⟩ = some (.int .i64 P.mi) := hO2.cell rfl
                have q2 : wc.cell? ⟨b, 2, none⟩ = some (.int .i64 P.size) := hO2.cell rfl
                have q3 : wc.cell? ⟨b, 3, none⟩ = some (.int .i64 P.sent) := hO2.cell rfl
                have hel : E.length + 1 ≤ 4096 := by
                  have h1 := hs.len
                  rw [HER.out, HR1.out] at h1
                  simp at h1
                  omega
                have hR2 : ∀ p ∈ R', o + 1 ≤ p.seq := fun p hp => by
                  have h1 := hup
                  have h2 : R.Pairwise (fun p q => p.seq < q.seq) := h1
                  rw [HR1.out] at h2
                  have := (List.pairwise_cons.1 h2).1 p hp; have := HPo.out; omega
                have hE2 : ∀ p ∈ E ++ [P], p.sent ≤ lim := fun p hp => by
                  rcases List.mem_append.1 hp with h | h
                  · exact hE p h
                  · rw [List.mem_singleton] at h; subst h; exact hov
                have HER2 : Hid (s.L = (E ++ [P]) ++ R') := by
                  show _ = _
                  rw [HER.out, HR1.out]; simp
                clear d0 d1 d2 d3 d4 d5 fz hE hR hdel HLc hOb ownc hFc e3
                go_wp2_with (at_builtin; refine wpList_append_own _ rfl _ _ 42 rfl w.heap.size 57 i0 (pv ⟨0, 0, 0, 0⟩) 4 32 Try.underlying42 hi hz0 hz1 hz2 rfl (by decide) _ _ _ rfl (own2.alloc _) ⟨wc.heap.size, 0, none⟩ 1 1 (pc P) rfl rfl (pc_new _ P) (pc_one P) (by unfold maxLen; omega) (by omega) (by have := hF2.size; simp; omega) ?_; intro v' w1 own1 gr1 _; have HL3 := (HL2.far ((Far.refl [] wc).alloc _) (by simp) (by simp)).app gr1 (fun j e => (own2.lt j e).1) hlt hmt; have hF3 := (hF2.alloc _).grown gr1 (fun j e => .inl (own2.lt j e).1); obtain ⟨d0, d1, d2, d3, d4, d5, fz⟩ := HL3.cells; clear gr1)
                have HL4 := HL3.step (o + 1)
                have hF4 := hF3.setCell (b := lb) (.inr (by simp)) 4 (.int .u64 (o + 1))
                have own4 := own_far own1 ((Far.refl [lb] w1).setCell (b := lb) (.inr (by simp)) 4 (.int .u64 (o + 1))) (by simpa using hlt)
                rw [← pcs_one P, ← pcs_append] at own4
                go_roundg (s.next - (o + 1)).toNat
                case rel => exact ⟨o + 1, E ++ [P], R', HER2.out, hE2, hR2, by omega, by omega, Nat.le_refl _, by rw [List.length_append]; exact own4, HL4, hF4⟩
                case measure => omega
            · have hov' : lim < P.sent := by omega
              have hno : ∀ p ∈ R, ¬ p.sent ≤ lim := by
                rw [HR1.out]
                intro p hp
                rcases List.mem_cons.1 hp with rfl | hp
                · exact hov
                · have h1 := hok.tm
                  have h2 : R.Pairwise (fun p q => p.sent ≤ q.sent) := h1
                  rw [HR1.out] at h2
                  have := (List.pairwise_cons.1 h2).1 p hp; omega
              go_wp2_with fail
              go_ret
              exact ⟨_, rfl, OUT.out hno _ _ ownc HLc hFc⟩
      · go_wp2_with fail
        go_quiet (fail)
        go_wp2_with fail
        go_ret
        exact ⟨_, rfl, OUT.out (fun p hp => by have := hR p hp; have := (hok.inn p hp).2; have e : p.seq < s.next := this; omega) _ _ (own_far own ((Far.refl [] wr).drewN nq) (by simp)) (HLr.drewN nq) (hF.drewN nq)⟩
end Go.Proofs.Ytpaalpnoppblaaa
