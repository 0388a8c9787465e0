/-
  Steps, the bytes of a string, what bytes are decoded to, what steps are encoded to, how many are of each kind: plain functions. No program in this text. No conditions.
-/
import Derived.Test.YtmiljpfljnjkpaaK
namespace Go.Proofs.Ytmiljpfljnjkpaa
set_option linter.unusedVariables false
/-- A step. -/
structure Stp where
  k : Int
  h : Int
  v : Int
structure Stp.Bd (z : Stp) : Prop where
  k : -9223372036854775808 ≤ z.k ∧ z.k ≤ 9223372036854775807
  h : -9223372036854775808 ≤ z.h ∧ z.h ≤ 9223372036854775807
  v : -9223372036854775808 ≤ z.v ∧ z.v ≤ 9223372036854775807
/-- The byte at a place of a string; 0 behind its end. -/
def byt (s : ByteArray) (i : Nat) : Int := ((s.data.toList.getD i 0).toNat : Int)
theorem byt_rg (s : ByteArray) (i : Nat) : 0 ≤ byt s i ∧ byt s i ≤ 255 := by
  have h : (s.data.toList.getD i 0).toNat < 256 := UInt8.toNat_lt _
  unfold byt
  exact ⟨by omega, by omega⟩
theorem size_list (s : ByteArray) : s.data.toList.length = s.size := by
  rw [Array.length_toList]; rfl
theorem byt_out {s : ByteArray} {i : Nat} (h : s.size ≤ i) : byt s i = 0 := by
  unfold byt
  rw [List.getD_eq_getElem?_getD, List.getElem?_eq_none (by rw [size_list]; exact h)]
  rfl
theorem byt_in (s : ByteArray) (i : Nat) (h : i < s.size) : ((s[i]'h).toNat : Int) = byt s i := by
  unfold byt
  rw [List.getD_eq_getElem?_getD, List.getElem?_eq_getElem (by rw [size_list]; exact h)]
  rfl
theorem byt_list (l : List UInt8) (i : Nat) : byt ⟨l.toArray⟩ i = ((l.getD i 0).toNat : Int) := rfl
theorem byt_extract (s : ByteArray) (a j : Nat) (h : a ≤ s.size) : byt (s.extract a s.size) j = byt s (a + j) := by
  obtain ⟨⟨l⟩⟩ := s
  have hl : ByteArray.size ⟨⟨l⟩⟩ = l.length := rfl
  rw [hl] at h ⊢
  have e : (ByteArray.extract ⟨⟨l⟩⟩ a l.length) = ⟨(l.drop a).toArray⟩ := by
    rw [show (⟨⟨l⟩⟩ : ByteArray) = ⟨l.toArray⟩ from rfl, ByteArray.extract_mk, List.take_of_length_le (by rw [List.length_drop]; omega)]
  rw [e, byt_list]
  show _ = ((l.getD (a + j) 0).toNat : Int)
  rw [List.getD_eq_getElem?_getD, List.getD_eq_getElem?_getD, List.getElem?_drop]
theorem byt_append (a b : ByteArray) (i : Nat) : byt (a ++ b) i = if i < a.size then byt a i else byt b (i - a.size) := by
  obtain ⟨⟨l⟩⟩ := a
  obtain ⟨⟨m⟩⟩ := b
  have hl : ByteArray.size ⟨⟨l⟩⟩ = l.length := rfl
  have e : ((⟨⟨l⟩⟩ : ByteArray) ++ (⟨⟨m⟩⟩ : ByteArray)) = ⟨(l ++ m).toArray⟩ := ByteArray.mk_append_mk l m
  rw [e, hl, byt_list]
  show _ = if i < l.length then ((l.getD i 0).toNat : Int) else ((m.getD (i - l.length) 0).toNat : Int)
  simp only [List.getD_eq_getElem?_getD]
  by_cases h : i < l.length
  · rw [if_pos h, List.getElem?_append_left h]
  · rw [if_neg h, List.getElem?_append_right (by omega)]
/-- So many senders as count. -/
def mm (m : Int) : Int := if m < 1 then 1 else if 64 < m then 64 else m
theorem mm_rg (m : Int) : 1 ≤ mm m ∧ mm m ≤ 64 := by
  unfold mm
  by_cases h1 : m < 1
  · rw [if_pos h1]; omega
  · rw [if_neg h1]
    by_cases h2 : 64 < m
    · rw [if_pos h2]; omega
    · rw [if_neg h2]; omega
theorem mm_lo {m : Int} (h : m < 1) : mm m = 1 := if_pos h
theorem mm_hi {m : Int} (h : 64 < m) : mm m = 64 := by unfold mm; rw [if_neg (by omega), if_pos h]
theorem mm_in {m : Int} (h : 1 ≤ m) (h2 : m ≤ 64) : mm m = m := by unfold mm; rw [if_neg (by omega), if_neg (by omega)]
/-- The first step of some bytes, of so many senders. -/
def fst3 (m : Int) (s : ByteArray) : Stp := ⟨byt s 0 % 8, byt s 1 % m, byt s 2⟩
/-- The i-th step of some bytes. -/
def dc (m : Int) (s : ByteArray) (i : Nat) : Stp := ⟨byt s (3 * i) % 8, byt s (3 * i + 1) % mm m, byt s (3 * i + 2)⟩
/-- So many steps as bytes are. -/
def dn (s : ByteArray) : Nat := (s.size + 2) / 3
theorem dc_fst (m : Int) (s : ByteArray) (i : Nat) (h : 3 * i ≤ s.size) : fst3 (mm m) (s.extract (3 * i) s.size) = dc m s i := by
  unfold fst3 dc
  rw [byt_extract s _ _ h, byt_extract s _ _ h, byt_extract s _ _ h, Nat.add_zero]
theorem dc_bd (m : Int) (s : ByteArray) (i : Nat) : 0 ≤ (dc m s i).k ∧ (dc m s i).k ≤ 7 ∧ 0 ≤ (dc m s i).h ∧ (dc m s i).h < mm m ∧ 0 ≤ (dc m s i).v ∧ (dc m s i).v ≤ 255 := by
  have a := byt_rg s (3 * i)
  have b := byt_rg s (3 * i + 1)
  have c := byt_rg s (3 * i + 2)
  have hm := mm_rg m
  have ea : (dc m s i).k = byt s (3 * i) % 8 := rfl
  have eb : (dc m s i).h = byt s (3 * i + 1) % mm m := rfl
  have ec : (dc m s i).v = byt s (3 * i + 2) := rfl
  rw [ea, eb, ec]
  have h1 := Int.emod_nonneg (byt s (3 * i + 1)) (show mm m ≠ 0 by omega)
  have h2 := Int.emod_lt_of_pos (byt s (3 * i + 1)) (show 0 < mm m by omega)
  exact ⟨by omega, by omega, h1, h2, c.1, c.2⟩
/-- Whether a step may be. -/
def isb (m : Int) (x : Stp) : Bool := decide (0 ≤ x.k ∧ x.k ≤ 7 ∧ 0 ≤ x.h ∧ x.h < mm m ∧ 0 ≤ x.v ∧ x.v ≤ 255)
theorem isb_iff {m : Int} {x : Stp} : isb m x = true ↔ 0 ≤ x.k ∧ x.k ≤ 7 ∧ 0 ≤ x.h ∧ x.h < mm m ∧ 0 ≤ x.v ∧ x.v ≤ 255 := decide_eq_true_iff
theorem isb_not {m : Int} {x : Stp} : isb m x = false ↔ ¬ (0 ≤ x.k ∧ x.k ≤ 7 ∧ 0 ≤ x.h ∧ x.h < mm m ∧ 0 ≤ x.v ∧ x.v ≤ 255) := decide_eq_false_iff_not
theorem isb_64 {m : Int} {x : Stp} (h : isb m x = true) : isb 64 x = true := by
  have := isb_iff.1 h
  have hm := mm_rg m
  have e : mm 64 = 64 := rfl
  exact isb_iff.2 ⟨by omega, by omega, by omega, by omega, by omega, by omega⟩
theorem dc_is (m : Int) (s : ByteArray) (i : Nat) : isb m (dc m s i) = true := isb_iff.2 (dc_bd m s i)
/-- How long a step lasts; how much it sends. -/
def spn (x : Stp) : Int := if isb 64 x = true ∧ x.k = 0 then (x.v + 1) * (x.v + 1) else 0
def siz (x : Stp) : Int := if isb 64 x = true ∧ x.k = 1 then 35 * x.v + 64 else 0
/-- A row of steps, told by their places. -/
def rw3 (f : Nat → Stp) : Nat → List Stp
  | 0 => []
  | i + 1 => rw3 f i ++ [f i]
theorem rw3_len (f : Nat → Stp) (n : Nat) : (rw3 f n).length = n := by
  induction n with
  | zero => rfl
  | succ n ih => show (rw3 f n ++ [f n]).length = _; rw [List.length_append, ih]; rfl
theorem rw3_get (f : Nat → Stp) (n : Nat) : ∀ i, i < n → (rw3 f n)[i]? = some (f i) := by
  induction n with
  | zero => intro i h; omega
  | succ n ih =>
    intro i h
    show (rw3 f n ++ [f n])[i]? = _
    by_cases e : i < n
    · rw [List.getElem?_append_left (by rw [rw3_len]; exact e)]; exact ih i e
    · obtain rfl : i = n := by omega
      rw [List.getElem?_append_right (by rw [rw3_len]; omega), rw3_len]; simp
theorem rw3_ext {f g : Nat → Stp} {n : Nat} (h : ∀ i, i < n → f i = g i) : rw3 f n = rw3 g n := by
  induction n with
  | zero => rfl
  | succ n ih => show rw3 f n ++ [f n] = rw3 g n ++ [g n]; rw [ih (fun i hi => h i (by omega)), h n (by omega)]
theorem rw3_add (f : Nat → Stp) (p q : Nat) : rw3 f p ++ rw3 (fun i => f (p + i)) q = rw3 f (p + q) := by
  induction q with
  | zero => simp [rw3]
  | succ q ih => show rw3 f p ++ (rw3 (fun i => f (p + i)) q ++ [f (p + q)]) = rw3 f (p + q) ++ [f (p + q)]; rw [← List.append_assoc, ih]
/-- The bytes of a step, of a row of steps. -/
def b3 (x : Stp) : List UInt8 := [UInt8.ofNat x.k.toNat, UInt8.ofNat x.h.toNat, UInt8.ofNat x.v.toNat]
def bl (f : Nat → Stp) : Nat → List UInt8
  | 0 => []
  | i + 1 => bl f i ++ b3 (f i)
def bs (f : Nat → Stp) (n : Nat) : ByteArray := ⟨(bl f n).toArray⟩
theorem bl_len (f : Nat → Stp) (n : Nat) : (bl f n).length = 3 * n := by
  induction n with
  | zero => rfl
  | succ n ih => show (bl f n ++ b3 (f n)).length = _; rw [List.length_append, ih]; show 3 * n + 3 = _; omega
theorem bs_size (f : Nat → Stp) (n : Nat) : (bs f n).size = 3 * n := bl_len f n
theorem bs_dn (f : Nat → Stp) (n : Nat) : dn (bs f n) = n := by unfold dn; rw [bs_size]; omega
theorem bl_get (f : Nat → Stp) (n : Nat) : ∀ i, i < n → (bl f n)[3 * i]? = some (UInt8.ofNat (f i).k.toNat) ∧ (bl f n)[3 * i + 1]? = some (UInt8.ofNat (f i).h.toNat) ∧ (bl f n)[3 * i + 2]? = some (UInt8.ofNat (f i).v.toNat) := by
  induction n with
  | zero => intro i h; omega
  | succ n ih =>
    intro i h
    show (bl f n ++ b3 (f n))[3 * i]? = _ ∧ (bl f n ++ b3 (f n))[3 * i + 1]? = _ ∧ (bl f n ++ b3 (f n))[3 * i + 2]? = _
    have hl := bl_len f n
    by_cases e : i < n
    · rw [List.getElem?_append_left (by omega), List.getElem?_append_left (by omega), List.getElem?_append_left (by omega)]; exact ih i e
    · obtain rfl : i = n := by omega
      rw [List.getElem?_append_right (by omega), List.getElem?_append_right (by omega), List.getElem?_append_right (by omega), hl, Nat.sub_self, show 3 * i + 1 - 3 * i = 1 by omega, show 3 * i + 2 - 3 * i = 2 by omega]
      exact ⟨rfl, rfl, rfl⟩
theorem u8_nat {x : Int} (h : 0 ≤ x) (h2 : x ≤ 255) : ((UInt8.ofNat x.toNat).toNat : Int) = x := by
  rw [UInt8.toNat_ofNat', Nat.mod_eq_of_lt (by omega)]; omega
theorem byt_bs (f : Nat → Stp) (n i : Nat) (hi : i < n) (h : isb 64 (f i) = true) : byt (bs f n) (3 * i) = (f i).k ∧ byt (bs f n) (3 * i + 1) = (f i).h ∧ byt (bs f n) (3 * i + 2) = (f i).v := by
  obtain ⟨a, b, c⟩ := bl_get f n i hi
  have hb := isb_iff.1 h
  have e : mm 64 = 64 := rfl
  unfold bs
  rw [byt_list, byt_list, byt_list, List.getD_eq_getElem?_getD, List.getD_eq_getElem?_getD, List.getD_eq_getElem?_getD, a, b, c]
  exact ⟨u8_nat (by omega) (by omega), u8_nat (by omega) (by omega), u8_nat (by omega) (by omega)⟩
/-- What was encoded is decoded. -/
theorem dc_bs (m : Int) (f : Nat → Stp) (n i : Nat) (hi : i < n) (h : isb m (f i) = true) : dc m (bs f n) i = f i := by
  obtain ⟨a, b, c⟩ := byt_bs f n i hi (isb_64 h)
  have hb := isb_iff.1 h
  unfold dc
  rw [a, b, c, Int.emod_eq_of_lt (by omega) (by omega), Int.emod_eq_of_lt (by omega) (by omega)]
/-- Steps of bytes behind one another. -/
theorem dc_app (m : Int) (a b : ByteArray) (p i : Nat) (hp : a.size = 3 * p) : dc m (a ++ b) i = if i < p then dc m a i else dc m b (i - p) := by
  unfold dc
  rw [byt_append, byt_append, byt_append, hp]
  by_cases h : i < p
  · rw [if_pos (by omega), if_pos (by omega), if_pos (by omega), if_pos h]
  · rw [if_neg (by omega), if_neg (by omega), if_neg (by omega), if_neg h, show 3 * i - 3 * p = 3 * (i - p) by omega, show 3 * i + 1 - 3 * p = 3 * (i - p) + 1 by omega, show 3 * i + 2 - 3 * p = 3 * (i - p) + 2 by omega]
theorem dn_app (a b : ByteArray) (p : Nat) (hp : a.size = 3 * p) : dn (a ++ b) = p + dn b := by
  unfold dn; rw [ByteArray.size_append, hp]; omega
theorem dn_thirds {a : ByteArray} {p : Nat} (hp : a.size = 3 * p) : dn a = p := by unfold dn; omega
/-- How many of so many are of a kind. -/
def cn (f : Nat → Stp) : Nat → Int → Int
  | 0, _ => 0
  | i + 1, j => if (f i).k = j then cn f i j + 1 else cn f i j
theorem cn_rg (f : Nat → Stp) (n : Nat) (j : Int) : 0 ≤ cn f n j ∧ cn f n j ≤ n := by
  induction n with
  | zero => exact ⟨Int.le_refl _, Int.le_refl _⟩
  | succ n ih =>
    show 0 ≤ (if (f n).k = j then cn f n j + 1 else cn f n j) ∧ (if (f n).k = j then cn f n j + 1 else cn f n j) ≤ _
    by_cases h : (f n).k = j
    · rw [if_pos h]; omega
    · rw [if_neg h]; omega
theorem cn_hit {f : Nat → Stp} {i : Nat} : cn f (i + 1) (f i).k = cn f i (f i).k + 1 := if_pos rfl
theorem cn_miss {f : Nat → Stp} {i : Nat} {j : Int} (h : (f i).k ≠ j) : cn f (i + 1) j = cn f i j := if_neg h
theorem cn_ext {f g : Nat → Stp} {n : Nat} (h : ∀ i, i < n → f i = g i) (j : Int) : cn f n j = cn g n j := by
  induction n with
  | zero => rfl
  | succ n ih =>
    show (if (f n).k = j then cn f n j + 1 else cn f n j) = (if (g n).k = j then cn g n j + 1 else cn g n j)
    rw [ih (fun i hi => h i (by omega)), h n (by omega)]
theorem cn_add (f : Nat → Stp) (p q : Nat) (j : Int) : cn f (p + q) j = cn f p j + cn (fun i => f (p + i)) q j := by
  induction q with
  | zero => show _ = _ + 0; simp
  | succ q ih =>
    show (if (f (p + q)).k = j then cn f (p + q) j + 1 else cn f (p + q) j) = cn f p j + (if (f (p + q)).k = j then cn (fun i => f (p + i)) q j + 1 else cn (fun i => f (p + i)) q j)
    rw [ih]
    by_cases h : (f (p + q)).k = j
    · rw [if_pos h, if_pos h]; omega
    · rw [if_neg h, if_neg h]
/-- How many are of the first so many kinds. -/
def sm (f : Nat → Stp) (n : Nat) : Nat → Int
  | 0 => 0
  | i + 1 => sm f n i + cn f n i
theorem sm_step (f : Nat → Stp) (n i : Nat) (h0 : 0 ≤ (f n).k) : sm f (n + 1) i = sm f n i + (if (f n).k < i then 1 else 0) := by
  induction i with
  | zero => show (0 : Int) = 0 + _; rw [if_neg (by omega)]; rfl
  | succ i ih =>
    show sm f (n + 1) i + (if (f n).k = (i : Int) then cn f n i + 1 else cn f n i) = sm f n i + cn f n i + _
    rw [ih]
    by_cases h1 : (f n).k = (i : Int)
    · rw [if_pos h1, if_neg (by omega), if_pos (by omega)]; omega
    · rw [if_neg h1]
      by_cases h2 : (f n).k < (i : Int)
      · rw [if_pos h2, if_pos (by omega)]; omega
      · rw [if_neg h2, if_neg (by omega)]; omega
theorem sm_all (f : Nat → Stp) (n : Nat) (h : ∀ i, i < n → 0 ≤ (f i).k ∧ (f i).k ≤ 7) : sm f n 8 = n := by
  induction n with
  | zero => rfl
  | succ n ih =>
    have := h n (by omega)
    rw [sm_step f n 8 this.1, ih (fun i hi => h i (by omega)), if_pos (by omega)]
    omega
theorem sm_rg (f : Nat → Stp) (n i : Nat) : 0 ≤ sm f n i ∧ sm f n i ≤ i * n := by
  induction i with
  | zero => exact ⟨Int.le_refl _, by show (0 : Int) ≤ _; simp⟩
  | succ i ih =>
    have c := cn_rg f n i
    have e : ((i + 1 : Nat) : Int) * n = (i : Int) * n + n := by rw [Int.natCast_add, Int.add_mul]; simp
    show 0 ≤ sm f n i + cn f n i ∧ sm f n i + cn f n i ≤ ((i + 1 : Nat) : Int) * n
    rw [e]
    omega
end Go.Proofs.Ytmiljpfljnjkpaa
