/-
  The products and lengths of the program (by bits.Mul64 and bits.Len64, walked here) are those of the numbers. No conditions but the numbers' own ranges.
-/
import Derived.Test.YtahlphbgnhklaaaB
import Derived.Test.YtahlphbgnhklaaaA2
import Derived.Lib.Mul64
import Derived.Lib.BitFns
import Derived.Laws.Bits64b
namespace Go.Proofs.Ytahlphbgnhklaaa
open Go.RowKit
set_option linter.unusedVariables false

theorem maskN (a : Nat) (ha : a < 18446744073709551616) : bits .and .u64 (a : Int) 4294967295 = ((a % 4294967296 : Nat) : Int) := by
  have h := bits_and_u64_nat a 4294967295 ha (by omega)
  have e : a &&& 4294967295 = a % 4294967296 := Nat.and_two_pow_sub_one_eq_mod a 32
  rw [e] at h
  exact h
theorem divN (a : Nat) : (a : Int) / 4294967296 = ((a / 4294967296 : Nat) : Int) := by omega
theorem mulN (a b : Nat) : (a : Int) * (b : Int) = ((a * b : Nat) : Int) := (Int.natCast_mul a b).symm
theorem addN (a b : Nat) : (a : Int) + (b : Int) = ((a + b : Nat) : Int) := (Int.natCast_add a b).symm
theorem wrapN (a : Nat) (ha : a < 18446744073709551616) : IntKind.u64.wrap (a : Int) = (a : Int) := by rw [IntKind.wrap_u64]; omega
theorem wrapM (a : Nat) : IntKind.u64.wrap (a : Int) = ((a % 18446744073709551616 : Nat) : Int) := by rw [IntKind.wrap_u64]; omega

set_option maxHeartbeats 1000000 in
theorem mul64_nat (x y : Nat) (hx : x < 18446744073709551616) (hy : y < 18446744073709551616) (w : World) :
    Calls Try.prog 41 #[.int .u64 x, .int .u64 y] w fun e w' => e = .returned (.tuple #[.int .u64 ((x * y / 18446744073709551616 : Nat) : Int), .int .u64 ((x * y % 18446744073709551616 : Nat) : Int)]) ∧ w' = w := by
  obtain ⟨bd, bt, bw, hhi⟩ := Lib.mul64_hi x y hx hy
  have ba := Lib.half_mul_le (a := x / 4294967296) (b := y / 4294967296) (by omega) (by omega)
  have bb := Lib.half_mul_le (a := x / 4294967296) (b := y % 4294967296) (by omega) (by omega)
  have bc := Lib.half_mul_le (a := x % 4294967296) (b := y / 4294967296) (by omega) (by omega)
  have ba' : x / 4294967296 * (y / 4294967296) < 18446744073709551616 := by omega
  have bb' : x / 4294967296 * (y % 4294967296) < 18446744073709551616 := by omega
  have bc' : x % 4294967296 * (y / 4294967296) < 18446744073709551616 := by omega
  have bh1 : x / 4294967296 * (y / 4294967296) + (x / 4294967296 * (y % 4294967296) + x % 4294967296 * (y % 4294967296) / 4294967296) / 4294967296 < 18446744073709551616 := by omega
  have bh : x / 4294967296 * (y / 4294967296) + (x / 4294967296 * (y % 4294967296) + x % 4294967296 * (y % 4294967296) / 4294967296) / 4294967296 + ((x / 4294967296 * (y % 4294967296) + x % 4294967296 * (y % 4294967296) / 4294967296) % 4294967296 + x % 4294967296 * (y / 4294967296)) / 4294967296 < 18446744073709551616 := by omega
  go_enter Try.func41, Try.ntmps41
  go_wp2
  simp only [maskN x hx, maskN y hy, divN, mulN, addN, wrapN _ bd, wrapN _ bb', wrapN _ bt, maskN _ bt, wrapN _ bc', wrapN _ bw, wrapN _ ba', wrapN _ bh1, wrapN _ bh, wrapM (x * y)]
  rw [hhi]
  go_ret2
  exact ⟨rfl, rfl⟩
theorem mul64_any (x y : Int) (hx0 : 0 ≤ x) (hx1 : x ≤ 18446744073709551615) (hy0 : 0 ≤ y) (hy1 : y ≤ 18446744073709551615) (w : World) :
    Calls Try.prog 41 #[.int .u64 x, .int .u64 y] w fun e w' => e = .returned (.tuple #[.int .u64 (hiw (x * y)), .int .u64 (low (x * y))]) ∧ w' = w := by
  obtain ⟨x, rfl⟩ := Int.eq_ofNat_of_zero_le hx0
  obtain ⟨y, rfl⟩ := Int.eq_ofNat_of_zero_le hy0
  have := mul64_nat x y (by omega) (by omega) w
  have e1 : ((x * y / 18446744073709551616 : Nat) : Int) = hiw ((x : Int) * y) := by unfold hiw; rw [mulN]; omega
  have e2 : ((x * y % 18446744073709551616 : Nat) : Int) = low ((x : Int) * y) := by unfold low; rw [mulN]; omega
  rwa [e1, e2] at this

set_option maxHeartbeats 800000 in
theorem mul_any (x y : Int) (hx0 : 0 ≤ x) (hx1 : x ≤ 18446744073709551615) (hy0 : 0 ≤ y) (hy1 : y ≤ 18446744073709551615) (w : World) :
    Calls Try.prog 20 #[.int .u64 x, .int .u64 y] w fun e w' => e = .returned (.agg #[.int .u64 (hiw (x * y)), .int .u64 (low (x * y))]) ∧ Below w.heap.size w w' := by
  go_enter Try.func20, Try.ntmps20
  go_wp2_with fail
  refine (mul64_any x y hx0 hx1 hy0 hy1 _).mono ?_
  rintro e w1 ⟨rfl, hw1⟩
  subst hw1
  go_wp2
  go_returns
  exact ⟨rfl, by go_grown⟩

/-! ### Lengths -/
theorem lenv_lib {x : Int} (h0 : 0 ≤ x) (h1 : x ≤ 18446744073709551615) : (Lib.bitLen x.toNat : Int) = lenv x := by
  rcases Int.lt_or_le 0 x with h | h
  · obtain ⟨s0, s1, s2⟩ := lenv_spec h
    obtain ⟨k, hk⟩ : ∃ k : Nat, lenv x = k + 1 := ⟨(lenv x - 1).toNat, by omega⟩
    rw [hk] at s1 s2 ⊢
    have l64 := lenv_64 h0 h1
    have e1 : ((2 ^ k : Nat) : Int) = p2 ((k : Int) + 1 - 1) := by unfold p2; rw [show ((k : Int) + 1 - 1).toNat = k by omega]; simp
    have e2 : ((2 ^ (k + 1) : Nat) : Int) = p2 ((k : Int) + 1) := by unfold p2; rw [show ((k : Int) + 1).toNat = k + 1 by omega]; simp
    have g1 : 2 ^ k ≤ x.toNat := by omega
    have g2 : x.toNat < 2 ^ (k + 1) := by omega
    have b1 := Lib.bitLen_shift k x.toNat g1 (by omega)
    have hp : 0 < 2 ^ k := Nat.two_pow_pos k
    have q : x.toNat / 2 ^ k = 1 := by
      have a : x.toNat / 2 ^ k < 2 := by rw [Nat.div_lt_iff_lt_mul hp, Nat.mul_comm, ← Nat.pow_succ]; exact g2
      have b : 1 ≤ x.toNat / 2 ^ k := by rw [Nat.le_div_iff_mul_le hp]; omega
      omega
    rw [q] at b1
    have : Lib.bitLen 1 = 1 := by decide
    omega
  · have : x = 0 := by omega
    subst this; decide

theorem tab_at (i : Int) (h : i.toNat < Lib.len8tab.size) : (((Lib.len8tab[i.toNat]'h).toNat : Nat) : Int) = Lib.len8 i := by
  unfold Lib.len8; simp [h]
theorem lenv_at {x : Int} (k : Nat) (i : Int) (h0 : 0 ≤ x) (h1 : x ≤ 18446744073709551615) (hk : 2 ^ k ≤ x.toNat) (e : i.toNat = x.toNat / 2 ^ k) (i0 : 0 ≤ i) (i1 : i ≤ 255) : lenv x = k + Lib.len8 i ∧ 0 ≤ Lib.len8 i ∧ Lib.len8 i ≤ 8 := by
  have s := Lib.bitLen_shift k x.toNat hk (by omega)
  have l := Lib.bitLen_le8' i i0 i1
  rw [← lenv_lib h0 h1, Lib.len8_of i i0 i1, e]
  rw [e] at l
  omega
theorem wrap_two {k v : Int} (k0 : 0 ≤ k) (k1 : k ≤ 56) (v0 : 0 ≤ v) (v1 : v ≤ 8) : wrap64 (k + wrap64 v) = k + v := by unfold wrap64; omega
theorem close56 {x : Int} (h0 : 0 ≤ x) (h1 : x ≤ 18446744073709551615) (a : 4294967296 ≤ x) (b : 65536 ≤ x / 4294967296) (c : 256 ≤ x / 4294967296 / 65536) (h : (x / 4294967296 / 65536 / 256).toNat < Lib.len8tab.size) : wrap64 (56 + wrap64 (((Lib.len8tab[(x / 4294967296 / 65536 / 256).toNat]'h).toNat : Nat) : Int)) = lenv x := by
  obtain ⟨e, l0, l1⟩ := lenv_at 56 (x / 4294967296 / 65536 / 256) h0 h1 (by omega) (by omega) (by omega) (by omega)
  rw [tab_at, wrap_two (by omega) (by omega) l0 l1, e]; rfl
theorem close48 {x : Int} (h0 : 0 ≤ x) (h1 : x ≤ 18446744073709551615) (a : 4294967296 ≤ x) (b : 65536 ≤ x / 4294967296) (c : x / 4294967296 / 65536 < 256) (h : (x / 4294967296 / 65536).toNat < Lib.len8tab.size) : wrap64 (48 + wrap64 (((Lib.len8tab[(x / 4294967296 / 65536).toNat]'h).toNat : Nat) : Int)) = lenv x := by
  obtain ⟨e, l0, l1⟩ := lenv_at 48 (x / 4294967296 / 65536) h0 h1 (by omega) (by omega) (by omega) (by omega)
  rw [tab_at, wrap_two (by omega) (by omega) l0 l1, e]; rfl
theorem close40 {x : Int} (h0 : 0 ≤ x) (h1 : x ≤ 18446744073709551615) (a : 4294967296 ≤ x) (b : x / 4294967296 < 65536) (c : 256 ≤ x / 4294967296) (h : (x / 4294967296 / 256).toNat < Lib.len8tab.size) : wrap64 (40 + wrap64 (((Lib.len8tab[(x / 4294967296 / 256).toNat]'h).toNat : Nat) : Int)) = lenv x := by
  obtain ⟨e, l0, l1⟩ := lenv_at 40 (x / 4294967296 / 256) h0 h1 (by omega) (by omega) (by omega) (by omega)
  rw [tab_at, wrap_two (by omega) (by omega) l0 l1, e]; rfl
theorem close32 {x : Int} (h0 : 0 ≤ x) (h1 : x ≤ 18446744073709551615) (a : 4294967296 ≤ x) (b : x / 4294967296 < 65536) (c : x / 4294967296 < 256) (h : (x / 4294967296).toNat < Lib.len8tab.size) : wrap64 (32 + wrap64 (((Lib.len8tab[(x / 4294967296).toNat]'h).toNat : Nat) : Int)) = lenv x := by
  obtain ⟨e, l0, l1⟩ := lenv_at 32 (x / 4294967296) h0 h1 (by omega) (by omega) (by omega) (by omega)
  rw [tab_at, wrap_two (by omega) (by omega) l0 l1, e]; rfl
theorem close24 {x : Int} (h0 : 0 ≤ x) (h1 : x ≤ 18446744073709551615) (a : x < 4294967296) (b : 65536 ≤ x) (c : 256 ≤ x / 65536) (h : (x / 65536 / 256).toNat < Lib.len8tab.size) : wrap64 (24 + wrap64 (((Lib.len8tab[(x / 65536 / 256).toNat]'h).toNat : Nat) : Int)) = lenv x := by
  obtain ⟨e, l0, l1⟩ := lenv_at 24 (x / 65536 / 256) h0 h1 (by omega) (by omega) (by omega) (by omega)
  rw [tab_at, wrap_two (by omega) (by omega) l0 l1, e]; rfl
theorem close16 {x : Int} (h0 : 0 ≤ x) (h1 : x ≤ 18446744073709551615) (a : x < 4294967296) (b : 65536 ≤ x) (c : x / 65536 < 256) (h : (x / 65536).toNat < Lib.len8tab.size) : wrap64 (16 + wrap64 (((Lib.len8tab[(x / 65536).toNat]'h).toNat : Nat) : Int)) = lenv x := by
  obtain ⟨e, l0, l1⟩ := lenv_at 16 (x / 65536) h0 h1 (by omega) (by omega) (by omega) (by omega)
  rw [tab_at, wrap_two (by omega) (by omega) l0 l1, e]; rfl
theorem close8 {x : Int} (h0 : 0 ≤ x) (h1 : x ≤ 18446744073709551615) (a : x < 4294967296) (b : x < 65536) (c : 256 ≤ x) (h : (x / 256).toNat < Lib.len8tab.size) : wrap64 (8 + wrap64 (((Lib.len8tab[(x / 256).toNat]'h).toNat : Nat) : Int)) = lenv x := by
  obtain ⟨e, l0, l1⟩ := lenv_at 8 (x / 256) h0 h1 (by omega) (by omega) (by omega) (by omega)
  rw [tab_at, wrap_two (by omega) (by omega) l0 l1, e]; rfl
theorem close0 {x : Int} (h0 : 0 ≤ x) (h1 : x ≤ 18446744073709551615) (a : x < 4294967296) (b : x < 65536) (c : x < 256) (h : x.toNat < Lib.len8tab.size) : wrap64 (wrap64 (((Lib.len8tab[x.toNat]'h).toNat : Nat) : Int)) = lenv x := by
  have l := Lib.bitLen_le8' x h0 (by omega)
  rw [tab_at, Lib.len8_of x h0 (by omega), lenv_lib h0 h1]
  rw [← lenv_lib h0 h1]; unfold wrap64; omega
set_option maxHeartbeats 1000000 in
set_option maxRecDepth 100000 in
theorem len64_any (x : Int) (h0 : 0 ≤ x) (h1 : x ≤ 18446744073709551615) (w : World) :
    Calls Try.prog 49 #[.int .u64 x] w fun e w' => e = .returned (.int .i64 (lenv x)) ∧ w' = w := by
  have hs := Lib.len8tab_size
  go_enter Try.func49, Try.ntmps49
  go_wp2
  all_goals (go_ret; refine ⟨congrArg Ending.returned (congrArg (Value.int IntKind.i64) ?_), rfl⟩)
  · exact close56 h0 h1 ‹_› ‹_› ‹_› _
  · exact close48 h0 h1 ‹_› ‹_› ‹_› _
  · exact close40 h0 h1 ‹_› ‹_› ‹_› _
  · exact close32 h0 h1 ‹_› ‹_› ‹_› _
  · exact close24 h0 h1 ‹_› ‹_› ‹_› _
  · exact close16 h0 h1 ‹_› ‹_› ‹_› _
  · exact close8 h0 h1 ‹_› ‹_› ‹_› _
  · exact close0 h0 h1 ‹_› ‹_› ‹_› _

set_option maxHeartbeats 400000 in
theorem zeros64_any (x : Int) (h0 : 0 ≤ x) (h1 : x ≤ 18446744073709551615) (w : World) :
    Calls Try.prog 48 #[.int .u64 x] w fun e w' => e = .returned (.int .i64 (64 - lenv x)) ∧ w' = w := by
  obtain ⟨l0, l1⟩ := lenv_64 h0 h1
  go_enter Try.func48, Try.ntmps48
  go_wp2_with fail
  refine (len64_any x h0 h1 _).mono ?_
  rintro e w1 ⟨rfl, hw1⟩
  subst hw1
  go_wp2
  go_ret
  exact ⟨rfl, rfl⟩

end Go.Proofs.Ytahlphbgnhklaaa
