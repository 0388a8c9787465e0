/-
  The program's books: packets whose time is over. No conditions but the books' own.
-/
import Derived.Test.YtpaalpnoppblaaaZ9
namespace Go.Proofs.Ytpaalpnoppblaaa
open Go.RowKit Go.Maps
set_option linter.unusedVariables false
set_option maxRecDepth 8000
theorem lostAll_succ {L : List Mi} {G : List Pt} {a : Int} {i : Nat} (hi : i < G.length) : lostAll L (G.take (i + 1)) a = chg (lostAll L (G.take i) a) (G[i]).mi (fun m => howV false m (G[i]) a) := by
  unfold lostAll
  rw [List.take_succ_eq_append_getElem hi, List.foldl_append]
  rfl
theorem lg_sub {l : Lg} (h : l.ok) {M : List Pt} (hs : M.Sublist l.L) : ({ l with L := M } : Lg).ok := by
  have := hs.length_le
  exact ⟨h.r0, h.r1, by have := h.len; show (M.length : Int) ≤ l.room; omega, h.f0, h.fo, h.on, h.n1, h.up.sublist hs, fun q hq => h.inn q (hs.subset hq), h.tm.sublist hs, fun q hq => h.tb q (hs.subset hq), h.l0, h.l1, fun q hq => h.sz q (hs.subset hq)⟩
/-- Where a packet that is over is charged, when those in front of it were. -/
theorem lost_spot {s : Bk} (hf : Fit s) {a : Int} (a0 : s.now ≤ a) (a1 : a ≤ 1099511627776) {G R : List Pt} (e : s.l.L = G ++ R) {i : Nat} (hi : i < G.length) :
    ∃ (j : Nat) (hj : j < (lostAll s.L (G.take i) a).length), IntKind.i64.wrap ((G[i]).mi - ((lostAll s.L (G.take i) a)[0]'(Nat.zero_lt_of_lt hj)).id) = (j : Int) ∧
      (lostAll s.L (G.take i) a).set j (howV false (lostAll s.L (G.take i) a)[j] (G[i]) a) = lostAll s.L (G.take (i + 1)) a := by
  have e2 : s.l.L = G.take i ++ (G.drop i ++ R) := by rw [← List.append_assoc, List.take_append_drop]; exact e
  have hs : (G.drop i ++ R).Sublist s.l.L := by rw [e2]; exact List.sublist_append_right _ _
  have f := lost_turn a0 a1 (G.take i) (R := G.drop i ++ R) (l := { s.l with L := G.drop i ++ R }) hf (lg_sub hf.ok hs) (by have := hf.nl; show s.l.last ≤ a; omega) e2 rfl
  have hm : G[i] ∈ G.drop i ++ R := List.mem_append_left _ (by rw [List.drop_eq_getElem_cons hi]; exact List.mem_cons_self)
  have hp := f.pk (G[i]) hm
  obtain ⟨j, hj, hw, hset⟩ := f.spot hp.1 hp.2
  exact ⟨j, hj, hw, by rw [lostAll_succ hi]; exact hset (fun m => howV false m (G[i]) a)⟩
set_option maxHeartbeats 4000000 in
theorem bexpire_any (bb lb mb : Nat) (ao : Option Addr) (g o c : Nat) (S : List Nat) (s : Bk) (hf : Fit s) (a : Int) (a0 : -9223372036854775808 ≤ a) (a1 : a ≤ 9223372036854775807) (w : World) (HB : Bks w bb lb mb ao g o c S s) :
    Calls Try.prog 42 #[.pointer (some ⟨bb, 0, none⟩), .agg #[.int .i64 a, hval false]] w fun e w' =>
      ∃ v, e = .returned (.tuple #[v, .int .i64 (exE s a)]) ∧ w'.ownsRow w.heap.size 57 4 v (exP s a).length (pcs (exP s a)) ∧ (∃ o, Bka w' bb S (exL s a o) ∧ Fit (exL s a o)) ∧ Far S w w' := by
  go_enter Try.func42, Try.ntmps42
  go_upto_region 1 with fail
  have BW : Below w.heap.size w (w.alloc (.cells #[.int .i64 a, hval false] 87)) := by go_grown
  have EB := Ob.fresh w #[.int .i64 a, hval false] 87
  have HB1 := HB.below BW
  have F1 : Far S w (w.alloc (.cells #[.int .i64 a, hval false] 87)) := (Far.of_below BW).mono (by simp)
  have hlow : ∀ q ∈ S, q < w.heap.size := HB.low
  generalize w.alloc (.cells #[.int .i64 a, hval false] 87) = W at *
  obtain ⟨eb, heb⟩ : ∃ eb, w.heap.size = eb := ⟨_, rfl⟩
  rw [heb] at EB hlow ⊢
  clear BW HB
  obtain ⟨c0, c1, c2, c3, c4, fz⟩ := HB1.cells
  have e0 : W.cell? ⟨eb, 0, none⟩ = some (.int .i64 a) := EB.cell rfl
  go_cut [15] (fun s15 wx => ∃ b, s15 = .bool b ∧ decide (a < s.now ∨ 1099511627776 < a) = b ∧ Below W.heap.size W wx)
  case first =>
    --@slow
    go_region_with (first | (go_at_call 64; refine (early_any s.now a _).mono ?_; rintro e w3 ⟨rfl, hw3⟩))
    all_goals go_wp2_with fail
    all_goals go_meet
    all_goals exact ⟨_, rfl, by simp, below_drew hw3⟩
    --@fast
  case rest =>
    obtain ⟨b, rfl, hbE, hw1⟩ := hcut
    have HB2 := HB1.below hw1
    have EB2 := EB.far (Far.of_below hw1) (by simp)
    have F2 : Far S w wc := F1.below hw1
    have hsz1 : w.heap.size ≤ wc.heap.size := F2.size
    clear HB1 EB F1 c0 c1 c2 c3 c4 fz e0 hw1
    obtain ⟨c0, c1, c2, c3, c4, fz⟩ := HB2.cells
    cases b
    rotate_left
    · have he : earlyP s a := by unfold earlyP; simpa using hbE
      have E : Hid (exE s a = 10 ∧ exP s a = [] ∧ exL s a 0 = s) := ⟨by simp [exE, he], by simp [exP, he], by simp [exL, he]⟩
      go_wp2_with fail
      go_ret2
      refine ⟨_, by rw [E.out.1]; rfl, by rw [E.out.2.1]; exact World.ownsRow_nil _ _ _ _, ⟨0, ?_, ?_⟩, F2⟩
      · rw [E.out.2.2]; exact ⟨_, _, _, _, _, _, HB2⟩
      · rw [E.out.2.2]; exact hf
    have he : ¬ earlyP s a := by unfold earlyP; simpa using hbE
    have hea : s.now ≤ a ∧ a ≤ 1099511627776 := by unfold earlyP at he; omega
    have HE : Hid (exE s a = 0 ∧ exP s a = s.l.L.filter (isover a s.timeout) ∧ ∀ o, exL s a o = { s with l := { s.l with oldest := o, L := s.l.L.filter fun p => !isover a s.timeout p }, now := a, L := lostAll s.L (s.l.L.filter (isover a s.timeout)) a }) :=
      ⟨by simp [exE, he], by simp [exP, he], fun o => by simp [exL, he]⟩
    clear hbE he
    have hok := hf.ok
    have ht0 := hf.t0
    have ht1 := hf.t1
    have hb2 : lb < eb := hlow _ HB2.m2
    have hb3 : mb < eb := hlow _ HB2.m3
    have hb1 : bb < eb := hlow _ HB2.m1
    have e0 : wc.cell? ⟨eb, 0, none⟩ = some (.int .i64 a) := EB2.cell rfl
    have HLD := HB2.led.far (Far.refl [] _).drew (by simp) (by simp)
    go_upto_region 3 with fail
    go_cut [6] (fun s6 wx => wx.ownsRow eb 57 4 s6 (s.l.L.filter (isover a s.timeout)).length (pcs (s.l.L.filter (isover a s.timeout))) ∧
        (∃ o, Led wx lb mb { s.l with oldest := o, L := s.l.L.filter (fun p => !isover a s.timeout p) } ∧ ({ s.l with oldest := o, L := s.l.L.filter (fun p => !isover a s.timeout p) } : Lg).ok) ∧ Far [lb, mb] wc wx)
    case first =>
      --@slow
      go_region_with (first | (go_at_call 68; refine (expire_any lb mb s.l hok a s.timeout a0 a1 (by omega) (by omega) _ HLD).mono ?_; rintro e w3 ⟨v, rfl, own3, HL3, F3⟩))
      all_goals go_wp2_with fail
      all_goals go_meet
      all_goals exact ⟨own_base4 own3 (by show eb ≤ wc.heap.size; omega), HL3, ((Far.refl [lb, mb] wc).drew).trans F3⟩
      --@fast
    case rest =>
      obtain ⟨own3, ⟨oo, HL3, hok3⟩, F3⟩ := hcut
      have HB3 := HB2.ledger F3 HL3
      have EB3 := EB2.far F3 (by simp; omega)
      have FW3 : Far S w wc := F2.trans (F3.mono (by simp; exact ⟨HB2.m2, HB2.m3⟩))
      clear HB2 EB2 F2 F3 HL3 HLD c0 c1 c2 c3 c4 fz e0 hsz1
      obtain ⟨G, hG⟩ : ∃ G, s.l.L.filter (isover a s.timeout) = G := ⟨_, rfl⟩
      obtain ⟨R, hR⟩ : ∃ R, s.l.L.filter (fun p => !isover a s.timeout p) = R := ⟨_, rfl⟩
      have hGR := over_front hok a s.timeout
      have hgm : ∀ p ∈ G, p ∈ s.l.L := fun p hp => by rw [← hG] at hp; exact (List.mem_filter.1 hp).1
      have hgl : G.length ≤ 4096 := by
        have h1 := hok.len; have h2 := hok.r1
        have h3 := List.length_filter_le (isover a s.timeout) s.l.L
        rw [hG] at h3; omega
      rw [hG, hR] at HE hGR
      rw [hG] at own3
      rw [hR] at hok3 HB3
      have hfit := lost_turn hea.1 hea.2 G (R := R) (l := { s.l with oldest := oo, L := R }) hf hok3 (by have := hf.nl; show s.l.last ≤ a; omega) hGR rfl
      obtain ⟨ap, cp, rfl, PK⟩ := Pks.own own3
      have hpc := PK.cap; have hpm := PK.max
      have hmx : maxLen = 9223372036854775807 := rfl
      have hgb : ∀ q ∈ S, q ∉ (Value.slice ap G.length cp).ownBlock.toList := fun q hq hm => by
        rw [Option.mem_toList] at hm
        have := (own_lt own3 hm).2; have := hlow q hq; omega
      clear hG hR hok3
      go_wp2_with fail
      go_loopw [29] (fun s29 wr => ∃ i : Nat, i ≤ G.length ∧ s29 = .int .i64 i ∧ Bks wr bb lb mb ao g o c S { s with l := { s.l with oldest := oo, L := R }, L := lostAll s.L (G.take i) a } ∧ Ob wr eb [.int .i64 a, hval false] ∧
        wr.ownsRow eb 57 4 (.slice ap G.length cp) G.length (pcs G) ∧ Far S w wr) (fun s29 _ => G.length - (intOf s29).toNat)
      case atStart => exact ⟨0, Nat.zero_le _, rfl, HB3, EB3, own3, FW3⟩
      case round =>
        obtain ⟨i, hi, rfl, HBr, EBr, ownr, FWr⟩ := hrel
        have hwr := FWr.size
        by_cases hin : i < G.length
        · obtain ⟨_, _, eqv, PKr⟩ := Pks.own ownr
          cases eqv
          obtain ⟨pb, rfl, hbl, hc⟩ := PKr.at' (by omega)
          obtain ⟨p0, p1, p2, p3⟩ := hc i hin
          obtain ⟨j, hj, hw, hset⟩ := lost_spot hf hea.1 hea.2 hGR hin
          have htb := hok.tb _ (hgm _ (List.getElem_mem hin))
          have hl1 := hok.l1
          obtain ⟨P, hP⟩ : ∃ P, G[i] = P := ⟨_, rfl⟩
          rw [hP] at p0 p1 p2 p3 hw hset htb
          clear hc hP hgm
          have HSET : Hid _ := hset
          have HW : Hid _ := hw
          clear hset hw
          have FA : Far [] wr (wr.alloc (.cells #[.int .u64 P.seq, .int .i64 P.mi, .int .i64 P.size, .int .i64 P.sent] 57)) := (Far.refl _ _).alloc _
          have HBA := HBr.far FA (by simp)
          have EA := EBr.far FA (by simp)
          have e0 : wr.cell? ⟨eb, 0, none⟩ = some (.int .i64 a) := EBr.cell rfl
          have e1 : wr.cell? ⟨eb, 1, none⟩ = some (hval false) := EBr.cell rfl
          have zl := EBr.lt
          have ownA := ownr.alloc (.cells #[.int .u64 P.seq, .int .i64 P.mi, .int .i64 P.size, .int .i64 P.sent] 57)
          have FWA := FWr.alloc (.cells #[.int .u64 P.seq, .int .i64 P.mi, .int .i64 P.size, .int .i64 P.sent] 57)
          clear HBr EBr FWr ownr PKr
          go_wp2_with fail
          refine (charge_any false bb lb mb ao g o c S ({ s with l := { s.l with oldest := oo, L := R }, L := lostAll s.L (G.take i) a } : Bk) P a (by omega) (by omega) j hj _ rfl HW.out _ HBA).mono ?_
          rintro e w4 ⟨rfl, HB4, F4⟩
          have hc0 : 0 < c := by have := HBA.row.cap; simp at this; omega
          have hgS : ∀ q ∈ [g], q ∈ S := fun q hq => by rw [List.mem_singleton] at hq; rw [hq]; exact (HBA.ng hc0).2.2.2
          have hge : g < eb := hlow _ (HBA.ng hc0).2.2.2
          have EA4 := EA.far F4 (by simp; omega)
          have own4 := own_far ownA F4 (by simp; omega)
          have FW4 := FWA.trans (F4.mono hgS)
          simp only [HSET.out] at HB4
          clear HBA EA ownA FWA F4
          go_wp2_with fail
          exact ⟨⟨i + 1, by omega, by simp, HB4, EA4, own4, FW4⟩, by simp only [intOf]; omega⟩
        · have hie : i = G.length := by omega
          have htk : G.take i = G := List.take_of_length_le (by omega)
          rw [htk] at HBr
          obtain ⟨c0, c1, c2, c3, c4, fz⟩ := HBr.cells
          have e0 : wr.cell? ⟨eb, 0, none⟩ = some (.int .i64 a) := EBr.cell rfl
          have HB5 := HBr.tick a
          have own5 := own_far ownr HB5.2 (by simp; omega)
          have F5 := FWr.trans (HB5.2.mono (by simp; exact HBr.m1))
          clear HBr ownr FWr EBr htk hie
          go_wp2_with fail
          go_ret2
          refine ⟨_, by rw [HE.out.1]; rfl, by rw [HE.out.2.1]; exact own5, ⟨oo, ?_, ?_⟩, F5⟩
          · rw [HE.out.2.2]; exact ⟨_, _, _, _, _, _, HB5.1⟩
          · rw [HE.out.2.2]; exact hfit
end Go.Proofs.Ytpaalpnoppblaaa
