/-
  The small functions beneath the statements of layer 1: the calls of bits.Add64 and bits.Sub64, halves, whole; the reference's bit and set. Each returns just this, and nothing that was there is turned. No conditions but the numbers' own ranges.
-/
import Derived.Test.YtopmfjjiakmleaaProg
import Derived.Test.YtopmfjjiakmleaaA
import Derived.WalkKit
import Derived.ProofKit
import Derived.Handy
import Derived.BigQuiet
import Derived.WalkSpells
import Derived.WalkLawsBesides
import Derived.Laws.Externs
import GoSem.Extern.MathBitsCarry
namespace Go.Proofs.Ytopmfjjiakmleaa
open Go.RowKit
set_option linter.unusedVariables false

/-- What a contract leaves: old cells and old marks read as before. -/
theorem bcell {B : Nat} {W w1 : World} (hb : Below B W w1) : (∀ b o, b < B → w1.cell? ⟨b, o, none⟩ = W.cell? ⟨b, o, none⟩) ∧ (∀ b o, b < B → w1.frozen? ⟨b, o, none⟩ = W.frozen? ⟨b, o, none⟩) :=
  ⟨fun b o h => hb.cell (p := ⟨b, o, none⟩) h, fun b o h => hb.frozen (p := ⟨b, o, none⟩) h⟩
/-- A world that has grown out of W. -/
def Later (W : World) : Type := {w' : World // Below W.heap.size W w'}
theorem Later.cell {W : World} (x : Later W) (b o : Nat) (h : b < W.heap.size) : x.1.cell? ⟨b, o, none⟩ = W.cell? ⟨b, o, none⟩ := x.2.cell (p := ⟨b, o, none⟩) h
theorem Later.call {W : World} {P : Program} {f : FuncId} {args : Array Value} {v : Value} (x : Later W) (h : Calls P f args x.1 fun e w' => e = .returned v ∧ Below x.1.heap.size x.1 w') :
    Calls P f args x.1 fun e w'' => e = .returned v ∧ ∃ y : Later W, w'' = y.1 :=
  h.mono fun _ w' ⟨he, hb⟩ => ⟨he, ⟨w', x.2.trans (hb.mono x.2.size)⟩, rfl⟩
theorem Later.first (W : World) : ∃ y : Later W, { W with drawn := W.drawn + 1 } = y.1 := ⟨⟨W.drew, (Below.refl _ _).drew⟩, rfl⟩

/-! ### The two calls that the model itself carries out -/
theorem run_add64_any (P : Program) (x y c : Int) (hx : 0 ≤ x) (hy : 0 ≤ y) (hc0 : 0 ≤ c) (hc : c ≤ 1) (w : World) :
    (add64Entry #[.int .u64 x, .int .u64 y, .int .u64 c]).run P w = .ok (.tuple #[.int .u64 ((x + y + c) % 18446744073709551616), .int .u64 ((x + y + c) / 18446744073709551616)]) w := run_add64 x y c hx hy hc0 hc w
theorem add64_call (x y c : Int) (hx : 0 ≤ x) (hy : 0 ≤ y) (hc0 : 0 ≤ c) (hc : c ≤ 1) (w : World) :
    (callFunc 27 #[.int .u64 x, .int .u64 y, .int .u64 c]).run Try.prog w =
      .ok (.value (.tuple #[.int .u64 ((x + y + c) % 18446744073709551616), .int .u64 ((x + y + c) / 18446744073709551616)])) w := by
  rw [run_callFunc_extern Try.func27 (by kernel_rfl) (by kernel_rfl) (by kernel_rfl) (e := add64Entry) (by kernel_rfl), run_add64_any _ x y c hx hy hc0 hc]
  rfl

def subEntry : Array Value → Sem Value := ((Extern.MathBitsCarry.rows[1]?).getD ("", fun _ => pure undef)).2
theorem run_subEntry (P : Program) (x y b : Nat) (hb : b ≤ 1) (w : World) :
    (subEntry #[.int .u64 x, .int .u64 y, .int .u64 b]).run P w =
      .ok (.tuple #[.int .u64 (((x + 18446744073709551616 - y - b) % 18446744073709551616 : Nat) : Int), .int .u64 ((if x < y + b then 1 else 0 : Nat) : Int)]) w := by
  have : b = 0 ∨ b = 1 := by omega
  rcases this with rfl | rfl <;> rfl
/-- The borrow of x less y and b. -/
def bor (x y b : Int) : Int := if x < y + b then 1 else 0
theorem bor_01 (x y b : Int) : 0 ≤ bor x y b ∧ bor x y b ≤ 1 := by unfold bor; split <;> omega
theorem sub64_call (x y b : Int) (hx : 0 ≤ x) (hx1 : x ≤ 18446744073709551615) (hy : 0 ≤ y) (hy1 : y ≤ 18446744073709551615) (hb0 : 0 ≤ b) (hb : b ≤ 1) (w : World) :
    (callFunc 31 #[.int .u64 x, .int .u64 y, .int .u64 b]).run Try.prog w =
      .ok (.value (.tuple #[.int .u64 ((x - y - b) % 18446744073709551616), .int .u64 (bor x y b)])) w := by
  obtain ⟨x, rfl⟩ := Int.eq_ofNat_of_zero_le hx
  obtain ⟨y, rfl⟩ := Int.eq_ofNat_of_zero_le hy
  obtain ⟨b, rfl⟩ := Int.eq_ofNat_of_zero_le hb0
  rw [run_callFunc_extern Try.func31 (by kernel_rfl) (by kernel_rfl) (by kernel_rfl) (e := subEntry) (by kernel_rfl), run_subEntry _ x y b (by omega)]
  have e1 : (((x + 18446744073709551616 - y - b) % 18446744073709551616 : Nat) : Int) = ((x : Int) - y - b) % 18446744073709551616 := by omega
  have e2 : ((if x < y + b then 1 else 0 : Nat) : Int) = bor x y b := by unfold bor; split <;> split <;> omega
  rw [e1, e2]
  rfl

/-! ### Halves -/
theorem halves_any (h l : Int) (w : World) :
    Calls Try.prog 26 #[.agg #[.int .u64 h, .int .u64 l]] w fun e w' => e = .returned (.agg #[.int .u64 l, .int .u64 h]) ∧ ∃ o1 o2, w' = (w.alloc o1).alloc o2 := by
  go_enter Try.func26, Try.ntmps26
  go_wp2
  go_returns
  exact ⟨rfl, _, _, rfl⟩
theorem whole_any (l h : Int) (w : World) :
    Calls Try.prog 28 #[.agg #[.int .u64 l, .int .u64 h]] w fun e w' => e = .returned (.agg #[.int .u64 h, .int .u64 l]) ∧ ∃ o1 o2, w' = (w.alloc o1).alloc o2 := by
  go_enter Try.func28, Try.ntmps28
  go_wp2
  go_returns
  exact ⟨rfl, _, _, rfl⟩

/-! ### The reference's bits -/
theorem bit_any (a i : Int) (ha : W128 a) (h0 : 0 ≤ i) (h1 : i < 128) (w : World) :
    Calls Try.prog 29 #[.agg #[.int .u64 (hiw a), .int .u64 (low a)], .int .i64 i] w fun e w' => e = .returned (.int .u64 (bitv a i)) ∧ Below w.heap.size w w' := by
  have hb := hiw_bd ha
  have lb := low_bd a
  by_cases h : 64 ≤ i
  · have E := bit_hi ha h
    have HE : Hid ((hiw a / 2 ^ (i - 64).toNat).tmod 2 = bitv a i) := E
    clear E
    go_enter Try.func29, Try.ntmps29
    go_wp2
    rw [HE.out]
    go_ret
    exact ⟨rfl, by go_grown⟩
  · have E := bit_lo ha h0 (by omega)
    have HE : Hid ((low a / 2 ^ i.toNat).tmod 2 = bitv a i) := E
    clear E
    go_enter Try.func29, Try.ntmps29
    go_wp2
    rw [HE.out]
    go_ret
    exact ⟨rfl, by go_grown⟩

end Go.Proofs.Ytopmfjjiakmleaa
