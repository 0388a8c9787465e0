/-
  The reference's Expire. No conditions.
-/
import Derived.Test.YtpaalpnoppblaaaY3
namespace Go.Proofs.Ytpaalpnoppblaaa
open Go.RowKit Go.Maps
set_option linter.unusedVariables false
set_option maxRecDepth 8000
set_option maxRecDepth 8000 in
set_option maxHeartbeats 2000000 in
theorem rexpire_any (B rb : Nat) (v : Value) (s : Lg) (hs : s.ok) (at' td : Int) (a0 : -9223372036854775808 ≤ at') (a1 : at' ≤ 9223372036854775807) (t0 : -9223372036854775808 ≤ td) (t1 : td ≤ 9223372036854775807) (w : World) (H : RLed B rb w v s) :
    Calls Try.prog 57 #[.pointer (some ⟨rb, 0, none⟩), .int .i64 at', .int .i64 td] w fun e w' =>
      ∃ vo, e = .returned vo ∧ w'.ownsRow w.heap.size 57 4 vo (s.L.filter (isover at' td)).length (pcs (s.L.filter (isover at' td))) ∧ (∃ v', RLed B rb w' v' { s with L := s.L.filter fun p => !isover at' td p } ∧ ∀ g, v'.ownBlock = some g → v.ownBlock = some g ∨ w.heap.size ≤ g) ∧ Far [rb] w w' := by
  obtain ⟨ao, cc, rfl, PA⟩ := Pks.own H.row
  have hcap := PA.cap; have hmax := PA.max
  have hmx : maxLen = 9223372036854775807 := rfl
  have hlen := hs.len; have hr1 := hs.r1
  have hrw := H.ob.lt
  have hlow := H.sz
  go_enter Try.func57, Try.ntmps57
  go_wp2_with fail
  go_loopw [7, 8, 9] (fun v7 v8 v9 wr => ∃ i : Nat, i ≤ s.L.length ∧ v9 = .int .i64 i ∧
      wr.ownsRow w.heap.size 57 4 v7 ((s.L.take i).filter fun p => !isover at' td p).length (pcs ((s.L.take i).filter fun p => !isover at' td p)) ∧
      wr.ownsRow w.heap.size 57 4 v8 ((s.L.take i).filter (isover at' td)).length (pcs ((s.L.take i).filter (isover at' td))) ∧
      (∀ g, v7.ownBlock = some g → v8.ownBlock = some g → False) ∧ Below w.heap.size w wr) (fun _ _ v9 _ => s.L.length - (intOf v9).toNat)
  case atStart => exact ⟨0, Nat.zero_le _, rfl, World.ownsRow_nil _ _ _ _, World.ownsRow_nil _ _ _ _, fun g h => by simp [Value.ownBlock] at h, Below.refl _ _⟩
  case round =>
    obtain ⟨i, hi, rfl, own7, own8, hne, hb⟩ := hrel
    have HR := H.below hb
    obtain ⟨c0, c1, c2, c3, c4, fz, hlt⟩ := HR.cells
    have hwr := hb.size
    by_cases hin : i < s.L.length
    · have hf := pt_filter hin (fun p => !isover at' td p)
      have hg := pt_filter hin (isover at' td)
      have hfl : ((s.L.take i).filter fun p => !isover at' td p).length ≤ 5000 := Nat.le_trans (List.length_filter_le _ _) (by rw [List.length_take]; omega)
      have hgl : ((s.L.take i).filter (isover at' td)).length ≤ 5000 := Nat.le_trans (List.length_filter_le _ _) (by rw [List.length_take]; omega)
      have htb := hs.tb _ (List.getElem_mem hin)
      have hl1 := hs.l1
      have hPA := PA.below hb
      obtain ⟨b, rfl, hbl, hc⟩ := hPA.at' (by omega)
      obtain ⟨a0', a1', a2', a3'⟩ := hc i hin
      obtain ⟨p, hp⟩ : ∃ p, s.L[i] = p := ⟨_, rfl⟩
      rw [hp] at a0' a1' a2' a3' hf hg htb
      have HP : Hid (s.L[i] = p) := hp
      clear hp hc
      go_wp2_with fail
      refine (over_any p at' td a0 a1 t0 t1 (by omega) (by omega) _).mono ?_
      rintro e w2 ⟨rfl, B2⟩
      have hb2 := hb.trans (B2.mono hb.size)
      have HR2 := H.below hb2
      have hc2 := ((PA.below hb2).at' (by omega))
      obtain ⟨_, eb, hbl2, hc2⟩ := hc2
      cases eb
      obtain ⟨k0, k1, k2, k3⟩ := hc2 i hin
      rw [HP.out] at k0 k1 k2 k3
      obtain ⟨d0, d1, d2, d3, d4, fz2, hlt2⟩ := HR2.cells
      replace own7 := own_far own7 (Far.of_below B2) (by simp)
      replace own8 := own_far own8 (Far.of_below B2) (by simp)
      have hw2 := hb2.size
      clear c0 c1 c2 c3 c4 fz hlt hwr hc2 a0' a1' a2' a3' HR hPA hbl B2 hb
      have oA7 := own7.alloc (.cells #[.int .u64 p.seq, .int .i64 p.mi, .int .i64 p.size, .int .i64 p.sent] 57)
      have oA8 := own8.alloc (.cells #[.int .u64 p.seq, .int .i64 p.mi, .int .i64 p.size, .int .i64 p.sent] 57)
      have hbA : Below w.heap.size w (w2.alloc (.cells #[.int .u64 p.seq, .int .i64 p.mi, .int .i64 p.size, .int .i64 p.sent] 57)) := hb2.alloc hb2.size _
      have ol := own_lit w2 p w.heap.size hb2.size
      cases hov : isover at' td p
      · rw [hov] at hf hg
        simp only [Bool.not_false, if_true] at hf
        simp only [Bool.false_eq_true, if_false, List.append_nil] at hg
        have HF : Hid _ := hf
        have HG : Hid _ := hg
        clear hf hg
        generalize (s.L.take i).filter (fun p => !isover at' td p) = E at *
        generalize (s.L.take i).filter (isover at' td) = D at *
        go_wp2_with (at_builtin; refine wpL_append rfl _ _ rfl rfl rfl oA7 ol hbA.size (by omega) ?_; intro v' w3 own' gr inf)
        have o8 := own_grown oA8 gr (fun g e1 e2 => hne g e2 e1)
        have hne' : ∀ g, v'.ownBlock = some g → u8.ownBlock = some g → False := fun g e1 e2 => by
          rcases inf g e1 with h1 | h1
          · exact hne g h1 e2
          · have := (own_lt oA8 e2).1; omega
        have B3 := below_grown hbA hbA.size (Nat.le_refl _) oA7 gr
        exact ⟨⟨i + 1, by omega, by simp, by rw [HF.out]; simpa using own', by rw [HG.out]; exact o8, hne', B3⟩, by simp only [intOf]; omega⟩
      · rw [hov] at hf hg
        simp only [Bool.not_true, Bool.false_eq_true, if_false, List.append_nil] at hf
        simp only [if_true] at hg
        have HF : Hid _ := hf
        have HG : Hid _ := hg
        clear hf hg
        generalize (s.L.take i).filter (fun p => !isover at' td p) = E at *
        generalize (s.L.take i).filter (isover at' td) = D at *
        go_wp2_with (at_builtin; refine wpL_append rfl _ _ rfl rfl rfl oA8 ol hbA.size (by omega) ?_; intro v' w3 own' gr inf)
        have o7 := own_grown oA7 gr (fun g e1 e2 => hne g e1 e2)
        have hne' : ∀ g, u7.ownBlock = some g → v'.ownBlock = some g → False := fun g e1 e2 => by
          rcases inf g e2 with h1 | h1
          · exact hne g e1 h1
          · have := (own_lt oA7 e1).1; omega
        have B3 := below_grown hbA hbA.size (Nat.le_refl _) oA8 gr
        exact ⟨⟨i + 1, by omega, by simp, by rw [HF.out]; exact o7, by rw [HG.out]; simpa using own', hne', B3⟩, by simp only [intOf]; omega⟩
    · have htk : s.L.take i = s.L := List.take_of_length_le (by omega)
      have hie : i = s.L.length := by omega
      rw [htk] at own7 own8
      obtain ⟨al, cl, rfl, PL⟩ := Pks.own own7
      have T1 := Turn.cell HR.ob (o := 4) (v := .slice al (s.L.filter fun p => !isover at' td p).length cl) (us := [.int .i64 s.room, .int .u64 s.first, .int .u64 s.next, .int .i64 s.last, .slice al (s.L.filter fun p => !isover at' td p).length cl]) (by repeat (first | exact SetAt.z | apply SetAt.s))
      have F1 : Far [rb] wr (wr.setCell ⟨rb, 4, none⟩ (.slice al (s.L.filter fun p => !isover at' td p).length cl)) := (Far.refl _ _).setCell (.inr (by simp)) _ _
      have o7 := own_base4 (own_far own7 F1 (by simp; omega)) hlow
      have o8 := own_far own8 F1 (by simp; omega)
      have FW : Far [rb] w (wr.setCell ⟨rb, 4, none⟩ (.slice al (s.L.filter fun p => !isover at' td p).length cl)) := ((Far.of_below hb).mono (by simp)).trans F1
      have hsz := FW.size
      have HL : RLed B rb (wr.setCell ⟨rb, 4, none⟩ (.slice al (s.L.filter fun p => !isover at' td p).length cl)) (.slice al (s.L.filter fun p => !isover at' td p).length cl) { s with L := s.L.filter fun p => !isover at' td p } := ⟨T1.here, o7, H.lt, by omega⟩
      have OWN : Hid (∀ q, (Value.slice al (s.L.filter fun p => !isover at' td p).length cl).ownBlock = some q → w.heap.size ≤ q) := fun q e => (own_lt own7 e).2
      clear T1 F1 o7 own7 own8 PL htk
      go_wp2_with fail
      go_ret
      exact ⟨_, rfl, o8, ⟨_, HL, fun q e => .inr (OWN.out q e)⟩, FW⟩
end Go.Proofs.Ytpaalpnoppblaaa
