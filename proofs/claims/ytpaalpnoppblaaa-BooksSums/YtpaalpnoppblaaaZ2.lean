/-
  Books as plain values: what each step makes of them; what stays true. No program in this text but its answers. No conditions.
-/
import Derived.Test.YtpaalpnoppblaaaZ1
namespace Go.Proofs.Ytpaalpnoppblaaa
set_option linter.unusedVariables false
/-- Books. -/
structure Bk where
  l : Lg
  now : Int
  timeout : Int
  begun : Int
  L : List Mi
/-- The account of an Id turned. -/
def chg (L : List Mi) (i : Int) (f : Mi → Mi) : List Mi := L.map fun m => if m.id = i then f m else m
def earlyP (s : Bk) (a : Int) : Prop := a < s.now ∨ 1099511627776 < a
instance (s : Bk) (a : Int) : Decidable (earlyP s a) := inferInstanceAs (Decidable (_ ∨ _))
def lastM (s : Bk) : Mi := s.L.getLast?.getD zeroM
def bgE (s : Bk) (a : Int) : Int := if earlyP s a then 10 else if s.L.length = 64 then 2 else 0
def bgV (s : Bk) (a : Int) : Int := if bgE s a = 0 then s.begun else 0
def bgL (s : Bk) (a : Int) : Bk := if bgE s a = 0 then { s with now := a, begun := s.begun + 1, L := chg s.L (s.begun - 1) (fun m => closeV m a) ++ [openV s.begun a] } else s
def sdE (s : Bk) (z a : Int) : Int := if earlyP s a then 10 else if s.L = [] then 15 else if sendE (lastM s) z ≠ 0 then sendE (lastM s) z else refv s.l (s.begun - 1) z a
def sdV (s : Bk) (z a : Int) : Int := if sdE s z a = 0 then s.l.next else 0
def sdL (s : Bk) (z a : Int) : Bk := if sdE s z a = 0 then { s with l := sentL s.l (s.begun - 1) z a, now := a, L := chg s.L (s.begun - 1) (fun m => sendV m z) } else s
/-- What the end of a packet's way does: an ack, or a loss. -/
def howV (k : Bool) (m : Mi) (p : Pt) (a : Int) : Mi := if k then ackV m p.size p.sent a else loseV m p.size
def stE (s : Bk) (x a : Int) : Int := if earlyP s a then 10 else tkv s.l x
def stP (s : Bk) (x a : Int) : Pt := if stE s x a = 0 then tkp s.l x else ⟨0, 0, 0, 0⟩
def stL (k : Bool) (s : Bk) (x a : Int) : Bk := if stE s x a = 0 then { s with l := takenL s.l x, now := a, L := chg s.L (tkp s.l x).mi (fun m => howV k m (tkp s.l x) a) } else s
def lostAll (L : List Mi) (G : List Pt) (a : Int) : List Mi := G.foldl (fun L p => chg L p.mi (fun m => howV false m p a)) L
def exE (s : Bk) (a : Int) : Int := if earlyP s a then 10 else 0
def exP (s : Bk) (a : Int) : List Pt := if earlyP s a then [] else s.l.L.filter (isover a s.timeout)
def exL (s : Bk) (a o : Int) : Bk := if earlyP s a then s else { s with l := { s.l with oldest := o, L := s.l.L.filter fun p => !isover a s.timeout p }, now := a, L := lostAll s.L (s.l.L.filter (isover a s.timeout)) a }
def tkB (s : Bk) : Bool := match s.L with | [] => false | m :: _ => doneB m
def tkM (s : Bk) : Mi := if tkB s then s.L.headD zeroM else zeroM
def tkL (s : Bk) : Bk := if tkB s then { s with L := s.L.tail } else s

/-- What is true of books at all times. -/
structure Fit (s : Bk) : Prop where
  ok : s.l.ok
  n0 : 0 ≤ s.now
  n1 : s.now ≤ 1099511627776
  nl : s.l.last ≤ s.now
  t0 : 1 ≤ s.timeout
  t1 : s.timeout ≤ 60000000
  len : s.L.length ≤ 64
  b0 : (s.L.length : Int) ≤ s.begun
  ne : 0 < s.begun → 0 < s.L.length
  ids : ∀ (j : Nat) (h : j < s.L.length), (s.L[j]).id = s.begun - s.L.length + j
  mid : ∀ (j : Nat) (h : j < s.L.length), j + 1 < s.L.length → (s.L[j]).«to» ≠ -1
  run : ∀ (j : Nat) (h : j < s.L.length), j + 1 = s.L.length → (s.L[j]).«to» = -1 ∧ (s.L[j]).fr ≤ s.now
  owes : ∀ m ∈ s.L, Owes m s.l.L
  pk : ∀ p ∈ s.l.L, s.begun - s.L.length ≤ p.mi ∧ p.mi < s.begun
  szs : Szs s.l.L
theorem Fit.last_id {s : Bk} (h : Fit s) (hn : s.L ≠ []) : ∃ hl : s.L.length - 1 < s.L.length, s.L[s.L.length - 1] = lastM s ∧ (lastM s).id = s.begun - 1 ∧ (lastM s).«to» = -1 ∧ (lastM s).fr ≤ s.now ∧ lastM s ∈ s.L := by
  have hp : 0 < s.L.length := List.length_pos_iff.2 hn
  have hl : s.L.length - 1 < s.L.length := by omega
  have e : lastM s = s.L[s.L.length - 1] := by
    unfold lastM
    rw [List.getLast?_eq_getElem?, List.getElem?_eq_getElem hl]; rfl
  refine ⟨hl, e.symm, ?_, ?_, ?_, by rw [e]; exact List.getElem_mem hl⟩
  · rw [e, h.ids _ hl]; omega
  · rw [e]; exact (h.run _ hl (by omega)).1
  · rw [e]; exact (h.run _ hl (by omega)).2
theorem chg_length (L : List Mi) (i : Int) (f : Mi → Mi) : (chg L i f).length = L.length := by simp [chg]
/-- An interval's place, by its Id. -/
theorem Fit.place {s : Bk} (h : Fit s) {i : Int} (h0 : s.begun - s.L.length ≤ i) (h1 : i < s.begun) : ∃ (j : Nat) (hj : j < s.L.length), (j : Int) = i - (s.begun - s.L.length) ∧ (s.L[j]).id = i ∧ ∀ k (hk : k < s.L.length), (s.L[k]).id = i ↔ k = j := by
  have hb := h.b0
  refine ⟨(i - (s.begun - s.L.length)).toNat, by omega, by omega, by rw [h.ids]; omega, fun k hk => by rw [h.ids]; omega⟩
theorem chg_set {L : List Mi} {i : Int} {j : Nat} (hj : j < L.length) (hu : ∀ k (hk : k < L.length), (L[k]).id = i ↔ k = j) (f : Mi → Mi) : L.set j (f L[j]) = chg L i f := by
  refine List.ext_getElem (by simp [chg]) fun k h1 h2 => ?_
  have hk : k < L.length := by simpa using h1
  rw [List.getElem_set]
  simp only [chg, List.getElem_map]
  by_cases e : j = k
  · subst e; rw [if_pos rfl, if_pos ((hu j hj).2 rfl)]
  · rw [if_neg e, if_neg (fun h => e ((hu k hk).1 h).symm)]
theorem chg_mem {L : List Mi} {i : Int} {f : Mi → Mi} {m : Mi} (h : m ∈ chg L i f) : ∃ x ∈ L, m = if x.id = i then f x else x := by
  obtain ⟨x, hx, e⟩ := List.mem_map.1 h
  exact ⟨x, hx, e.symm⟩
theorem chg_at {L : List Mi} {i : Int} {f : Mi → Mi} {k : Nat} (h : k < (chg L i f).length) : (chg L i f)[k] = if (L[k]'(by simpa [chg] using h)).id = i then f (L[k]'(by simpa [chg] using h)) else L[k]'(by simpa [chg] using h) := by simp [chg]
/-- A step that turns one interval's account, but not its Id, begin and end, and the packets. -/
theorem Fit.turn {s : Bk} (h : Fit s) {l : Lg} (hl : l.ok) {a : Int} (a0 : s.now ≤ a) (a1 : a ≤ 1099511627776) (la : l.last ≤ a) {i : Int} {f : Mi → Mi}
    (hf : ∀ m ∈ s.L, m.id = i → (f m).id = m.id ∧ (f m).«to» = m.«to» ∧ (f m).fr = m.fr ∧ Owes (f m) l.L) (hg : ∀ m ∈ s.L, m.id ≠ i → Owes m l.L)
    (hp : ∀ p ∈ l.L, s.begun - s.L.length ≤ p.mi ∧ p.mi < s.begun) (hz : Szs l.L) : Fit { s with l := l, now := a, L := chg s.L i f } := by
  have hn := h.n0
  have key : ∀ (k : Nat) (hk : k < s.L.length), ((chg s.L i f)[k]'(by rw [chg_length]; exact hk)).id = (s.L[k]).id ∧ ((chg s.L i f)[k]'(by rw [chg_length]; exact hk)).«to» = (s.L[k]).«to» ∧ ((chg s.L i f)[k]'(by rw [chg_length]; exact hk)).fr = (s.L[k]).fr := fun k hk => by
    rw [chg_at]
    split
    · rename_i e; have := hf _ (List.getElem_mem hk) e; exact ⟨this.1, this.2.1, this.2.2.1⟩
    · exact ⟨rfl, rfl, rfl⟩
  refine ⟨hl, by show 0 ≤ a; omega, a1, la, h.t0, h.t1, by rw [chg_length]; exact h.len, by rw [chg_length]; exact h.b0, by rw [chg_length]; exact h.ne, ?_, ?_, ?_, ?_, by rw [chg_length]; exact hp, hz⟩
  · intro j hj
    have hj' : j < s.L.length := by simpa [chg] using hj
    rw [(key j hj').1, chg_length]; exact h.ids j hj'
  · intro j hj hlt
    have hj' : j < s.L.length := by simpa [chg] using hj
    rw [(key j hj').2.1]; exact h.mid j hj' (by simpa [chg] using hlt)
  · intro j hj hlt
    have hj' : j < s.L.length := by simpa [chg] using hj
    rw [(key j hj').2.1, (key j hj').2.2]
    have := h.run j hj' (by simpa [chg] using hlt)
    exact ⟨this.1, by show _ ≤ a; omega⟩
  · intro m hm
    obtain ⟨x, hx, rfl⟩ := chg_mem hm
    split
    · rename_i e; exact (hf x hx e).2.2.2
    · rename_i e; exact hg x hx e
theorem bg_fit {s : Bk} (h : Fit s) (a : Int) : Fit (bgL s a) := by
  unfold bgL
  split
  rotate_left
  · exact h
  rename_i h0
  have hn := h.n0; have hb := h.b0
  have he : ¬ earlyP s a ∧ s.L.length ≠ 64 := by
    unfold bgE at h0
    split at h0
    · omega
    · rename_i e; split at h0
      · omega
      · rename_i e2; exact ⟨e, e2⟩
  have hlen : s.L.length < 64 := by have := h.len; omega
  obtain ⟨he, -⟩ := he
  unfold earlyP at he
  have ho := opened (i := s.begun) (a := a) (by omega) (by omega) (by omega)
  rw [ho.2]
  have hcl : ∀ m ∈ s.L, m.id = s.begun - 1 → closeV m a = { m with «to» := a } ∧ Owes { m with «to» := a } s.l.L := fun m hm hi => by
    obtain ⟨j, hj, rfl⟩ := List.getElem_of_mem hm
    have hid := h.ids j hj
    have hr := h.run j hj (by omega)
    have := (h.owes _ hm).closed (a := a) hr.1 (by omega) (by omega)
    exact this.2
  have hL : (chg s.L (s.begun - 1) (fun m => closeV m a)).length = s.L.length := chg_length _ _ _
  have h2 : ∀ (j : Nat) (hj : j < s.L.length), ((chg s.L (s.begun - 1) (fun m => closeV m a))[j]'(by rw [hL]; exact hj)).id = (s.L[j]).id ∧ ((chg s.L (s.begun - 1) (fun m => closeV m a))[j]'(by rw [hL]; exact hj)).«to» ≠ -1 := fun j hj => by
    rw [chg_at]
    have hid := h.ids j hj
    split
    · rename_i e
      rw [(hcl _ (List.getElem_mem hj) e).1]
      exact ⟨rfl, by show a ≠ -1; omega⟩
    · rename_i e
      exact ⟨rfl, h.mid j hj (by omega)⟩
  refine ⟨h.ok, by show 0 ≤ a; omega, by show a ≤ _; omega, by have := h.nl; show s.l.last ≤ a; omega, h.t0, h.t1, by simp [hL]; omega, by simp [hL]; omega, fun _ => by simp, ?_, ?_, ?_, ?_, ?_, h.szs⟩
  · intro j hj
    have hj' : j < s.L.length + 1 := by simpa [hL] using hj
    simp only [List.getElem_append, hL, List.length_append, List.length_singleton]
    split
    · rename_i hlt; rw [(h2 j hlt).1, h.ids j hlt]; push_cast; omega
    · have : j = s.L.length := by omega
      subst this; simp; omega
  · intro j hj hlt
    simp only [List.length_append, hL, List.length_singleton] at hlt
    simp only [List.getElem_append, hL]
    rw [dif_pos (by omega)]
    exact (h2 j (by omega)).2
  · intro j hj hlt
    simp only [List.length_append, hL, List.length_singleton] at hlt
    simp only [List.getElem_append, hL]
    rw [dif_neg (by omega)]
    simp
  · intro m hm
    rcases List.mem_append.1 hm with hm | hm
    · obtain ⟨x, hx, rfl⟩ := chg_mem hm
      split
      · rename_i e; rw [(hcl x hx e).1]; exact (hcl x hx e).2
      · exact h.owes x hx
    · rw [List.mem_singleton] at hm; subst hm
      exact owes_open (by omega) (by omega) (by omega) fun p hp => by have := h.pk p hp; omega
  · intro p hp
    have := h.pk p hp
    simp only [List.length_append, hL, List.length_singleton]
    push_cast
    constructor <;> omega
theorem sd_not {s : Bk} {z a : Int} (h : sdE s z a = 0) : (s.now ≤ a ∧ a ≤ 1099511627776) ∧ s.L ≠ [] ∧ sendE (lastM s) z = 0 ∧ refv s.l (s.begun - 1) z a = 0 := by
  unfold sdE at h
  split at h
  · omega
  · rename_i e
    unfold earlyP at e
    split at h
    · omega
    · rename_i e2
      split at h
      · rename_i e3; exact absurd h e3
      · rename_i e3; exact ⟨by omega, e2, by omega, h⟩
theorem sd_fit {s : Bk} (h : Fit s) (z a : Int) : Fit (sdL s z a) := by
  unfold sdL
  split
  rotate_left
  · exact h
  rename_i h0
  obtain ⟨⟨a0, a1⟩, hne, he, hr⟩ := sd_not h0
  have hs : sentL s.l (s.begun - 1) z a = { s.l with next := s.l.next + 1, last := a, L := s.l.L ++ [⟨s.l.next, s.begun - 1, z, a⟩] } := by unfold sentL; exact if_pos hr
  obtain ⟨hl, e1, e2, e3, e4, e5⟩ := h.last_id hne
  have hb := h.b0
  have hz : 1 ≤ z ∧ z ≤ 9000 := by have := refv_0 hr; omega
  have hp0 : 0 < s.L.length := List.length_pos_iff.2 hne
  refine h.turn (sent_ok h.ok _ _ _) a0 a1 (by rw [hs]; exact Int.le_refl _) ?_ ?_ ?_ ?_
  · intro m hm hi
    have em : m = lastM s := by
      obtain ⟨j, hj, rfl⟩ := List.getElem_of_mem hm
      have := h.ids j hj
      have hj' : j = s.L.length - 1 := by omega
      subst hj'; exact e1
    have := (h.owes m hm).sent (p := ⟨s.l.next, s.begun - 1, z, a⟩) (by show s.begun - 1 = m.id; omega) (by rw [em]; exact he)
    simp only at this
    rw [this.1, hs]
    exact ⟨rfl, rfl, rfl, this.2⟩
  · intro m hm hi
    rw [hs]
    exact (h.owes m hm).more (by show s.begun - 1 ≠ m.id; omega)
  · rw [hs]
    intro p hp
    rcases List.mem_append.1 hp with hp | hp
    · exact h.pk p hp
    · rw [List.mem_singleton] at hp; subst hp
      show s.begun - s.L.length ≤ s.begun - 1 ∧ s.begun - 1 < s.begun
      omega
  · rw [hs]
    intro p hp
    rcases List.mem_append.1 hp with hp | hp
    · exact h.szs p hp
    · rw [List.mem_singleton] at hp; subst hp; exact hz
theorem st_not {s : Bk} {x a : Int} (h : stE s x a = 0) : (s.now ≤ a ∧ a ≤ 1099511627776) ∧ tkv s.l x = 0 := by
  unfold stE at h
  split at h
  · omega
  · rename_i e; unfold earlyP at e; exact ⟨by omega, h⟩
/-- A packet that is taken: it was on its way, and what is left is on its way. -/
theorem tk_is {l : Lg} (hl : l.ok) {x : Int} (h : tkv l x = 0) : tkp l x ∈ l.L ∧ (tkp l x).seq = x ∧ List.Perm l.L (tkp l x :: without l.L x) ∧ takenL l x = { l with L := without l.L x } := by
  have hany := tkv_0 h
  have e : tkp l x = foundP l.L x := by unfold tkp; rw [if_pos h]; rfl
  have f := find_any hany
  rw [← e] at f
  refine ⟨f.1, f.2, ?_, by unfold takenL; exact if_pos h⟩
  rw [e]
  exact perm_without hl.up hany
theorem how_turn {k : Bool} {m : Mi} {p : Pt} {Q : List Pt} {a : Int} (h : Owes m (p :: Q)) (hs : Szs (p :: Q)) (hp : p.mi = m.id) (s0 : 0 ≤ p.sent) (s1 : p.sent ≤ a) (s2 : a ≤ 1099511627776) :
    (howV k m p a).id = m.id ∧ (howV k m p a).«to» = m.«to» ∧ (howV k m p a).fr = m.fr ∧ Owes (howV k m p a) Q := by
  cases k
  · have := h.lost hs hp
    show (loseV m p.size).id = _ ∧ (loseV m p.size).«to» = _ ∧ (loseV m p.size).fr = _ ∧ Owes (loseV m p.size) Q
    rw [this.2.1]
    exact ⟨rfl, rfl, rfl, this.2.2⟩
  · have := h.acked hs hp s0 s1 s2
    show (ackV m p.size p.sent a).id = _ ∧ (ackV m p.size p.sent a).«to» = _ ∧ (ackV m p.size p.sent a).fr = _ ∧ Owes (ackV m p.size p.sent a) Q
    rw [this.2.1]
    refine ⟨raw_id .., ?_, raw_fr .., this.2.2⟩
    unfold rawM; split <;> rfl
theorem st_fit {s : Bk} (h : Fit s) (k : Bool) (x a : Int) : Fit (stL k s x a) := by
  unfold stL
  split
  rotate_left
  · exact h
  rename_i h0
  obtain ⟨⟨a0, a1⟩, ht⟩ := st_not h0
  obtain ⟨hm, hx, hperm, he⟩ := tk_is h.ok ht
  have hsz : Szs (tkp s.l x :: without s.l.L x) := fun p hp => h.szs p (hperm.mem_iff.2 hp)
  have htb := h.ok.tb _ hm
  have hnl := h.nl
  refine h.turn (taken_ok h.ok x) a0 a1 (by rw [he]; show s.l.last ≤ a; omega) ?_ ?_ ?_ ?_
  · intro m hm' hi
    rw [he]
    exact how_turn ((h.owes m hm').perm hperm) hsz hi.symm htb.1 (by omega) a1
  · intro m hm' hi
    rw [he]
    exact ((h.owes m hm').perm hperm).skip (fun e => hi e.symm)
  · rw [he]; intro p hp; exact h.pk p (hperm.mem_iff.2 (by simp [show p ∈ without s.l.L x from hp]))
  · rw [he]; exact hsz.tail
/-- Packets lost, one by one, ahead of those that stay. -/
theorem lost_turn {s : Bk} {a : Int} (a0 : s.now ≤ a) (a1 : a ≤ 1099511627776) : ∀ (G : List Pt) {R : List Pt} {l : Lg}, Fit s → l.ok → l.last ≤ a → s.l.L = G ++ R → l.L = R → Fit { s with l := l, now := a, L := lostAll s.L G a }
  | [], R, l, h, hl, hla, e, e2 => by
    have := h.turn (f := fun m => m) (i := 0) hl a0 a1 hla (fun m hm _ => ⟨rfl, rfl, rfl, by rw [e2]; have := h.owes m hm; rwa [e] at this⟩) (fun m hm _ => by rw [e2]; have := h.owes m hm; rwa [e] at this)
      (fun p hp => h.pk p (by rw [e]; rw [e2] at hp; exact hp)) (fun p hp => h.szs p (by rw [e]; rw [e2] at hp; exact hp))
    have e3 : chg s.L 0 (fun m => m) = s.L := by simp [chg]
    rw [e3] at this
    exact this
  | p :: G, R, l, h, hl, hla, e, e2 => by
    have hok := h.ok
    have hsub : (G ++ R).Sublist s.l.L := by rw [e]; exact List.sublist_cons_self _ _
    have hll := hsub.length_le
    have l1 : ({ s.l with L := G ++ R } : Lg).ok := ⟨hok.r0, hok.r1, by have := hok.len; show ((G ++ R).length : Int) ≤ s.l.room; omega, hok.f0, hok.fo, hok.on, hok.n1, hok.up.sublist hsub, fun q hq => hok.inn q (hsub.subset hq), hok.tm.sublist hsub, fun q hq => hok.tb q (hsub.subset hq), hok.l0, hok.l1, fun q hq => hok.sz q (hsub.subset hq)⟩
    have hpm : p ∈ s.l.L := by rw [e]; simp
    have htb := hok.tb p hpm
    have hnl := h.nl
    have f1 : Fit { s with l := { s.l with L := G ++ R }, now := a, L := chg s.L p.mi (fun m => howV false m p a) } := by
      refine h.turn l1 a0 a1 (by show s.l.last ≤ a; omega) ?_ ?_ ?_ ?_
      · intro m hm hi
        have ow := h.owes m hm
        rw [e] at ow
        have hsz := h.szs
        rw [e] at hsz
        exact how_turn ow hsz hi.symm htb.1 (by omega) a1
      · intro m hm hi
        have ow := h.owes m hm
        rw [e] at ow
        exact Owes.skip (Q := G ++ R) ow (fun e => hi e.symm)
      · intro q hq; exact h.pk q (hsub.subset hq)
      · intro q hq; exact h.szs q (hsub.subset hq)
    have f2 := lost_turn (s := { s with l := { s.l with L := G ++ R }, now := a, L := chg s.L p.mi (fun m => howV false m p a) }) (a := a) (Int.le_refl _) a1 G f1 hl hla rfl e2
    exact f2
/-- The packets that are over lie in front: none behind is sent ahead of one in front. -/
theorem over_front {l : Lg} (hl : l.ok) (a t : Int) : l.L = l.L.filter (isover a t) ++ l.L.filter fun p => !isover a t p := by
  have h := hl.tm
  generalize l.L = Q at h
  induction Q with
  | nil => rfl
  | cons p Q ih =>
    have h' := List.pairwise_cons.1 h
    cases hp : isover a t p
    · have hno : ∀ q ∈ Q, isover a t q = false := fun q hq => by
        have := h'.1 q hq
        simp [isover] at hp ⊢; omega
      have e1 : Q.filter (isover a t) = [] := List.filter_eq_nil_iff.2 fun q hq => by rw [hno q hq]; simp
      have e2 : Q.filter (fun p => !isover a t p) = Q := List.filter_eq_self.2 fun q hq => by rw [hno q hq]; rfl
      simp [hp, e1, e2]
    · have := ih h'.2
      simp only [List.filter_cons, hp, if_true, Bool.not_true, Bool.false_eq_true, if_false, List.cons_append]
      rw [← this]
theorem ex_fit {s : Bk} (h : Fit s) (a o : Int) (hok : ({ s.l with oldest := o, L := s.l.L.filter fun p => !isover a s.timeout p } : Lg).ok) : Fit (exL s a o) := by
  unfold exL
  split
  · exact h
  rename_i e
  unfold earlyP at e
  exact lost_turn (by omega) (by omega) _ h hok (by have := h.nl; show s.l.last ≤ a; omega) (over_front h.ok a s.timeout) rfl
theorem tk_fit {s : Bk} (h : Fit s) : Fit (tkL s) := by
  unfold tkL
  split
  rotate_left
  · exact h
  rename_i hd
  obtain ⟨m, L, e⟩ : ∃ m L, s.L = m :: L := by
    cases hL : s.L with
    | nil => rw [tkB, hL] at hd; simp at hd
    | cons m L => exact ⟨m, L, rfl⟩
  have hdm : doneB m = true := by rw [tkB, e] at hd; exact hd
  simp only [doneB, Bool.and_eq_true, decide_eq_true_eq] at hdm
  have hb := h.b0
  have hlen := h.len
  have ids := h.ids; have mid := h.mid; have run := h.run
  simp only [e, List.length_cons] at hb hlen ids mid run
  have r0 := run 0 (by omega)
  simp only [List.getElem_cons_zero] at r0
  have hL1 : 0 < L.length := by
    rcases Nat.eq_zero_or_pos L.length with h0 | h0
    · exact absurd (r0 (by omega)).1 hdm.2.1
    · exact h0
  have hid0 := ids 0 (by omega)
  simp only [List.getElem_cons_zero] at hid0
  have hdue : due m.id s.l.L = 0 := by
    have := (h.owes m (by rw [e]; simp)).d
    omega
  have hno : ∀ p ∈ s.l.L, p.mi ≠ m.id := fun p hp he => by
    have : ∀ (Q : List Pt), p ∈ Q → 1 ≤ due m.id Q ∧ True := fun Q hq => by
      induction Q with
      | nil => cases hq
      | cons q Q ih =>
        have hnn : ∀ Q : List Pt, 0 ≤ due m.id Q := fun Q => by
          induction Q with
          | nil => simp [due]
          | cons q Q ih => simp only [due]; split <;> omega
        rcases List.mem_cons.1 hq with rfl | hq
        · have := hnn Q; simp only [due, if_pos he]; exact ⟨by omega, trivial⟩
        · have := (ih hq).1; simp only [due]; exact ⟨by split <;> omega, trivial⟩
    have := (this _ hp).1
    omega
  refine ⟨h.ok, h.n0, h.n1, h.nl, h.t0, h.t1, by simp only [e, List.tail_cons]; omega, by simp only [e, List.tail_cons]; omega, fun _ => by simp only [e, List.tail_cons]; exact hL1, ?_, ?_, ?_, ?_, ?_, h.szs⟩
  · intro j hj
    simp only [e, List.tail_cons] at hj ⊢
    have := ids (j + 1) (by omega)
    simp only [List.getElem_cons_succ] at this
    rw [this]; push_cast; omega
  · intro j hj hlt
    simp only [e, List.tail_cons] at hj hlt ⊢
    have := mid (j + 1) (by omega) (by omega)
    simpa only [List.getElem_cons_succ] using this
  · intro j hj hlt
    simp only [e, List.tail_cons] at hj hlt ⊢
    have := run (j + 1) (by omega) (by omega)
    simpa only [List.getElem_cons_succ] using this
  · intro x hx
    simp only [e, List.tail_cons] at hx
    exact h.owes x (by rw [e]; simp [hx])
  · intro p hp
    have h1 := h.pk p hp
    have h2 := hno p hp
    simp only [e, List.tail_cons, List.length_cons] at h1 ⊢
    push_cast at h1 hid0
    omega
theorem new_fit {l : Lg} (hl : l.ok) (h0 : l.last = 0) (h1 : l.L = []) {t : Int} (t0 : 1 ≤ t) (t1 : t ≤ 60000000) : Fit ⟨l, 0, t, 0, []⟩ :=
  ⟨hl, by simp, by simp, by simp [h0], t0, t1, by simp, by simp, fun h => by simp at h, fun j h => by simp at h, fun j h => by simp at h, fun j h => by simp at h, fun m h => by simp at h, fun p h => by simp [h1] at h, fun p h => by simp [h1] at h⟩
end Go.Proofs.Ytpaalpnoppblaaa
