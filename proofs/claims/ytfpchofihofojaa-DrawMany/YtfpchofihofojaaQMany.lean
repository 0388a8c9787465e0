/-
  DrawMany: for any source and numbers, many draws, one below a number, one between two, and a side, are just the document's. No conditions.
-/
import Derived.Test.YtfpchofihofojaaQ12
import Derived.Test.YtfpchofihofojaaOS
import Derived.Test.YtfpchofihofojaaRows
import Derived.WalkKit
import Derived.ProofKit
import Derived.OpenShut
import Derived.ChangeOld
import Derived.Below
import Derived.Lib.SmallJoins
namespace Go.Proofs.Ytfpchofihofojaa
open Go.RowKit
set_option linter.unusedVariables false
set_option maxHeartbeats 8000000 in
set_option maxRecDepth 100000 in
theorem walk_many (k s i p : Int) (ao : Option Addr) (n c : Nat) (zs : List Int) (m l u : Int) (h0 : 0 ≤ s) (h1 : s ≤ 18446744073709551615) (i0 : 0 ≤ i) (i1 : i ≤ 18446744073709551615) (k0 : -9223372036854775808 ≤ k) (k1 : k ≤ 9223372036854775807) (p0 : -9223372036854775808 ≤ p) (p1 : p ≤ 9223372036854775807)
    (m0 : -9223372036854775808 ≤ m) (m1 : m ≤ 9223372036854775807) (l0 : -9223372036854775808 ≤ l) (l1 : l ≤ 9223372036854775807) (u0 : -9223372036854775808 ≤ u) (u1 : u ≤ 9223372036854775807) (w : World) (hz : Row .u64 w ao n c zs) :
    Calls Try.prog 4 #[.agg #[.int .i64 k, .int .u64 s, .int .u64 i, .slice ao n c, .int .i64 p], .int .i64 m, .int .i64 l, .int .i64 u] w fun e w' => e = .returned (.bool true) ∧ Below w.heap.size w w' := by
  by_cases e5 : (2000 : Int) < n
  · have hbig : decide ((2000 : Int) < n) = true := by simpa using e5
    have G := fun w => big_any k s i p ao n c w
    rw [hbig] at G
    go_enter Try.func4, Try.ntmps4
    go_wp2_with fail
    refine (G _).mono ?_
    rintro e w1 ⟨rfl, hw1⟩
    have g1 : Below w.heap.size w w1 := Below.call (by go_grown) (by simp) hw1
    go_wp2
    go_ret
    exact ⟨rfl, g1⟩
  have hbig : decide ((2000 : Int) < n) = false := by simpa using e5
  have G := fun w => big_any k s i p ao n c w
  rw [hbig] at G
  clear hbig e5
  have CA := fun w hz => many_any k s i p m ao n c zs h0 h1 i0 i1 w hz
  have CB := fun w hz => refMany_any k s i p m ao n c zs h0 h1 i0 i1 w hz
  have CC := fun w hz => below_any k s i p m ao n c zs h0 h1 i0 i1 m1 w hz
  have CD := fun w hz => refBelow_any k s i p m ao n c zs h0 h1 i0 i1 m1 w hz
  have CE := fun w hz => between_any k s i p l u ao n c zs h0 h1 i0 i1 l0 l1 u0 u1 w hz
  have CF := fun w hz => refBetween_any k s i p l u ao n c zs h0 h1 i0 i1 l0 l1 u0 u1 w hz
  have CG := fun w hz => flip_any k s i p ao n c zs h0 h1 i0 i1 w hz
  have CH := fun w hz => refFlip_any k s i p ao n c zs h0 h1 i0 i1 w hz
  generalize manyN m = M at *
  generalize dN k s i p zs M = DM at *
  generalize sN k s i M = sm' at *
  generalize pN k p zs M = pm' at *
  generalize belowv k s p zs m = y at *
  generalize belowS k s i m = sb' at *
  generalize belowP k p zs m = pb' at *
  generalize betweenv k s p zs l u = z at *
  generalize betweenS k s i l u = se' at *
  generalize betweenP k p zs l u = pe' at *
  generalize decide (2147483648 ≤ drawv k s p zs) = bf at *
  generalize statev k s i = sf' at *
  generalize atv k p zs = pf' at *
  go_enter Try.func4, Try.ntmps4
  go_wp2_with fail
  refine (G _).mono ?_
  rintro e w1 ⟨rfl, hw1⟩
  have g1 : Below w.heap.size w w1 := Below.call (by go_grown) (by simp) hw1
  have S : At5 w1 w.heap.size (.int .i64 k) (.int .u64 s) (.int .u64 i) (.slice ao n c) (.int .i64 p) := At5.of hw1 (by constructor <;> simp [go_sem])
  have R := (hz.alloc _).below hw1
  clear hw1 hz G
  obtain ⟨s0, s1, s2, s3, s4, sa, sb, sc, sd, se, sl⟩ := id S
  go_wp2_with fail
  refine (CA _ (R)).mono ?_
  rintro e w2 ⟨boa, da, rfl, RA, hw2⟩
  have g2 : Below w.heap.size w w2 := Below.call (by have := g1.size; go_grown) (by have := g1.size; simp; try omega) hw2
  have Sn := At5.of hw2 (S)
  have Rn := (R).below hw2
  clear S  R hw2 g1 CA s0 s1 s2 s3 s4 sa sb sc sd se sl
  have S := Sn
  clear Sn
  have R := Rn
  clear Rn
  obtain ⟨s0, s1, s2, s3, s4, sa, sb, sc, sd, se, sl⟩ := id S
  go_wp2_with fail
  refine (CB _ (R.alloc _)).mono ?_
  rintro e w3 ⟨bob, db, rfl, RB, hw3⟩
  have g3 : Below w.heap.size w w3 := Below.call (by have := g2.size; go_grown) (by have := g2.size; simp; try omega) hw3
  have Sn := At5.of hw3 (S.alloc _)
  have VAn : At5 w3 w2.heap.size (.int .i64 k) (.int .u64 sm') (.int .u64 i) (.slice ao n c) (.int .i64 pm') := At5.of hw3 (At5.fresh _ _ _ _ _ _ _)
  have Rn := (R.alloc _).below hw3
  have RAn := (RA.alloc _).below hw3
  clear S  R RA hw3 g2 CB s0 s1 s2 s3 s4 sa sb sc sd se sl
  have S := Sn
  clear Sn
  have VA := VAn
  clear VAn
  have R := Rn
  clear Rn
  have RA := RAn
  clear RAn
  obtain ⟨s0, s1, s2, s3, s4, sa, sb, sc, sd, se, sl⟩ := id S
  go_wp2_with fail
  refine (CC _ (R.alloc _)).mono ?_
  rintro e w4 ⟨rfl, hw4⟩
  have g4 : Below w.heap.size w w4 := Below.call (by have := g3.size; go_grown) (by have := g3.size; simp; try omega) hw4
  have Sn := At5.of hw4 (S.alloc _)
  have VAn := At5.of hw4 (VA.alloc _)
  have VBn : At5 w4 w3.heap.size (.int .i64 k) (.int .u64 sm') (.int .u64 i) (.slice ao n c) (.int .i64 pm') := At5.of hw4 (At5.fresh _ _ _ _ _ _ _)
  have Rn := (R.alloc _).below hw4
  have RAn := (RA.alloc _).below hw4
  have RBn := (RB.alloc _).below hw4
  clear S VA R RA RB hw4 g3 CC s0 s1 s2 s3 s4 sa sb sc sd se sl
  have S := Sn
  clear Sn
  have VA := VAn
  clear VAn
  have VB := VBn
  clear VBn
  have R := Rn
  clear Rn
  have RA := RAn
  clear RAn
  have RB := RBn
  clear RBn
  obtain ⟨s0, s1, s2, s3, s4, sa, sb, sc, sd, se, sl⟩ := id S
  go_wp2_with fail
  refine (CD _ (R.alloc _)).mono ?_
  rintro e w5 ⟨rfl, hw5⟩
  have g5 : Below w.heap.size w w5 := Below.call (by have := g4.size; go_grown) (by have := g4.size; simp; try omega) hw5
  have Sn := At5.of hw5 (S.alloc _)
  have VAn := At5.of hw5 (VA.alloc _)
  have VBn := At5.of hw5 (VB.alloc _)
  have VCn : At5 w5 w4.heap.size (.int .i64 k) (.int .u64 sb') (.int .u64 i) (.slice ao n c) (.int .i64 pb') := At5.of hw5 (At5.fresh _ _ _ _ _ _ _)
  have Rn := (R.alloc _).below hw5
  have RAn := (RA.alloc _).below hw5
  have RBn := (RB.alloc _).below hw5
  clear S VA VB R RA RB hw5 g4 CD s0 s1 s2 s3 s4 sa sb sc sd se sl
  have S := Sn
  clear Sn
  have VA := VAn
  clear VAn
  have VB := VBn
  clear VBn
  have VC := VCn
  clear VCn
  have R := Rn
  clear Rn
  have RA := RAn
  clear RAn
  have RB := RBn
  clear RBn
  obtain ⟨s0, s1, s2, s3, s4, sa, sb, sc, sd, se, sl⟩ := id S
  go_wp2_with fail
  refine (CE _ (R.alloc _)).mono ?_
  rintro e w6 ⟨rfl, hw6⟩
  have g6 : Below w.heap.size w w6 := Below.call (by have := g5.size; go_grown) (by have := g5.size; simp; try omega) hw6
  have Sn := At5.of hw6 (S.alloc _)
  have VAn := At5.of hw6 (VA.alloc _)
  have VBn := At5.of hw6 (VB.alloc _)
  have VCn := At5.of hw6 (VC.alloc _)
  have VDn : At5 w6 w5.heap.size (.int .i64 k) (.int .u64 sb') (.int .u64 i) (.slice ao n c) (.int .i64 pb') := At5.of hw6 (At5.fresh _ _ _ _ _ _ _)
  have Rn := (R.alloc _).below hw6
  have RAn := (RA.alloc _).below hw6
  have RBn := (RB.alloc _).below hw6
  clear S VA VB VC R RA RB hw6 g5 CE s0 s1 s2 s3 s4 sa sb sc sd se sl
  have S := Sn
  clear Sn
  have VA := VAn
  clear VAn
  have VB := VBn
  clear VBn
  have VC := VCn
  clear VCn
  have VD := VDn
  clear VDn
  have R := Rn
  clear Rn
  have RA := RAn
  clear RAn
  have RB := RBn
  clear RBn
  obtain ⟨s0, s1, s2, s3, s4, sa, sb, sc, sd, se, sl⟩ := id S
  go_wp2_with fail
  refine (CF _ (R.alloc _)).mono ?_
  rintro e w7 ⟨rfl, hw7⟩
  have g7 : Below w.heap.size w w7 := Below.call (by have := g6.size; go_grown) (by have := g6.size; simp; try omega) hw7
  have Sn := At5.of hw7 (S.alloc _)
  have VAn := At5.of hw7 (VA.alloc _)
  have VBn := At5.of hw7 (VB.alloc _)
  have VCn := At5.of hw7 (VC.alloc _)
  have VDn := At5.of hw7 (VD.alloc _)
  have VEn : At5 w7 w6.heap.size (.int .i64 k) (.int .u64 se') (.int .u64 i) (.slice ao n c) (.int .i64 pe') := At5.of hw7 (At5.fresh _ _ _ _ _ _ _)
  have Rn := (R.alloc _).below hw7
  have RAn := (RA.alloc _).below hw7
  have RBn := (RB.alloc _).below hw7
  clear S VA VB VC VD R RA RB hw7 g6 CF s0 s1 s2 s3 s4 sa sb sc sd se sl
  have S := Sn
  clear Sn
  have VA := VAn
  clear VAn
  have VB := VBn
  clear VBn
  have VC := VCn
  clear VCn
  have VD := VDn
  clear VDn
  have VE := VEn
  clear VEn
  have R := Rn
  clear Rn
  have RA := RAn
  clear RAn
  have RB := RBn
  clear RBn
  obtain ⟨s0, s1, s2, s3, s4, sa, sb, sc, sd, se, sl⟩ := id S
  go_wp2_with fail
  refine (CG _ (R.alloc _)).mono ?_
  rintro e w8 ⟨rfl, hw8⟩
  have g8 : Below w.heap.size w w8 := Below.call (by have := g7.size; go_grown) (by have := g7.size; simp; try omega) hw8
  have Sn := At5.of hw8 (S.alloc _)
  have VAn := At5.of hw8 (VA.alloc _)
  have VBn := At5.of hw8 (VB.alloc _)
  have VCn := At5.of hw8 (VC.alloc _)
  have VDn := At5.of hw8 (VD.alloc _)
  have VEn := At5.of hw8 (VE.alloc _)
  have VFn : At5 w8 w7.heap.size (.int .i64 k) (.int .u64 se') (.int .u64 i) (.slice ao n c) (.int .i64 pe') := At5.of hw8 (At5.fresh _ _ _ _ _ _ _)
  have Rn := (R.alloc _).below hw8
  have RAn := (RA.alloc _).below hw8
  have RBn := (RB.alloc _).below hw8
  clear S VA VB VC VD VE R RA RB hw8 g7 CG s0 s1 s2 s3 s4 sa sb sc sd se sl
  have S := Sn
  clear Sn
  have VA := VAn
  clear VAn
  have VB := VBn
  clear VBn
  have VC := VCn
  clear VCn
  have VD := VDn
  clear VDn
  have VE := VEn
  clear VEn
  have VF := VFn
  clear VFn
  have R := Rn
  clear Rn
  have RA := RAn
  clear RAn
  have RB := RBn
  clear RBn
  obtain ⟨s0, s1, s2, s3, s4, sa, sb, sc, sd, se, sl⟩ := id S
  go_wp2_with fail
  refine (CH _ (R.alloc _)).mono ?_
  rintro e w9 ⟨rfl, hw9⟩
  have g9 : Below w.heap.size w w9 := Below.call (by have := g8.size; go_grown) (by have := g8.size; simp; try omega) hw9
  have Sn := At5.of hw9 (S.alloc _)
  have VAn := At5.of hw9 (VA.alloc _)
  have VBn := At5.of hw9 (VB.alloc _)
  have VCn := At5.of hw9 (VC.alloc _)
  have VDn := At5.of hw9 (VD.alloc _)
  have VEn := At5.of hw9 (VE.alloc _)
  have VFn := At5.of hw9 (VF.alloc _)
  have VGn : At5 w9 w8.heap.size (.int .i64 k) (.int .u64 sf') (.int .u64 i) (.slice ao n c) (.int .i64 pf') := At5.of hw9 (At5.fresh _ _ _ _ _ _ _)
  have Rn := (R.alloc _).below hw9
  have RAn := (RA.alloc _).below hw9
  have RBn := (RB.alloc _).below hw9
  clear S VA VB VC VD VE VF R RA RB hw9 g8 CH s0 s1 s2 s3 s4 sa sb sc sd se sl
  have S := Sn
  clear Sn
  have VA := VAn
  clear VAn
  have VB := VBn
  clear VBn
  have VC := VCn
  clear VCn
  have VD := VDn
  clear VDn
  have VE := VEn
  clear VEn
  have VF := VFn
  clear VFn
  have VG := VGn
  clear VGn
  have R := Rn
  clear Rn
  have RA := RAn
  clear RAn
  have RB := RBn
  clear RBn
  obtain ⟨s0, s1, s2, s3, s4, sa, sb, sc, sd, se, sl⟩ := id S
  clear S s0 s1 s2 s3 s4 sa sb sc sd se sl
  go_wp2_with fail
  refine (drawn_any _).mono ?_
  rintro e w10 ⟨rfl, hw10⟩
  have g10 : Below w.heap.size w w10 := Below.call (by have := g9.size; go_grown) (by have := g9.size; simp; try omega) hw10
  have VAn := At5.of hw10 (VA.alloc _)
  have VBn := At5.of hw10 (VB.alloc _)
  have VCn := At5.of hw10 (VC.alloc _)
  have VDn := At5.of hw10 (VD.alloc _)
  have VEn := At5.of hw10 (VE.alloc _)
  have VFn := At5.of hw10 (VF.alloc _)
  have VGn := At5.of hw10 (VG.alloc _)
  have VHn : At5 w10 w9.heap.size (.int .i64 k) (.int .u64 sf') (.int .u64 i) (.slice ao n c) (.int .i64 pf') := At5.of hw10 (At5.fresh _ _ _ _ _ _ _)
  have Rn := (R.alloc _).below hw10
  have RAn := (RA.alloc _).below hw10
  have RBn := (RB.alloc _).below hw10
  clear VA VB VC VD VE VF VG R RA RB hw10 g9
  have VA := VAn
  clear VAn
  have VB := VBn
  clear VBn
  have VC := VCn
  clear VCn
  have VD := VDn
  clear VDn
  have VE := VEn
  clear VEn
  have VF := VFn
  clear VFn
  have VG := VGn
  clear VGn
  have VH := VHn
  clear VHn
  have R := Rn
  clear Rn
  have RA := RAn
  clear RAn
  have RB := RBn
  clear RBn
  go_wp2_with fail
  refine (ints_same _ _ _ _ _ _ _ RA RB).mono ?_
  rintro e w11 ⟨rfl, hw11⟩
  have g11 : Below w.heap.size w w11 := Below.call (by have := g10.size; go_grown) (by have := g10.size; simp; try omega) hw11
  have VAn := At5.of hw11 (VA)
  have VBn := At5.of hw11 (VB)
  have VCn := At5.of hw11 (VC)
  have VDn := At5.of hw11 (VD)
  have VEn := At5.of hw11 (VE)
  have VFn := At5.of hw11 (VF)
  have VGn := At5.of hw11 (VG)
  have VHn := At5.of hw11 (VH)
  have Rn := (R).below hw11
  have RAn := (RA).below hw11
  have RBn := (RB).below hw11
  clear VA VB VC VD VE VF VG VH R RA RB hw11 g10
  have VA := VAn
  clear VAn
  have VB := VBn
  clear VBn
  have VC := VCn
  clear VCn
  have VD := VDn
  clear VDn
  have VE := VEn
  clear VEn
  have VF := VFn
  clear VFn
  have VG := VGn
  clear VGn
  have VH := VHn
  clear VHn
  have R := Rn
  clear Rn
  have RA := RAn
  clear RAn
  have RB := RBn
  clear RBn
  obtain ⟨x0, x1, x2, x3, x4, xa, xb, xc, xd, xe, xl⟩ := id VA
  obtain ⟨y0, y1, y2, y3, y4, ya, yb, yc, yd, ye, yl⟩ := id VB
  go_wp2_with fail
  refine (same_any _ _ _ _ _ _ _ _ _ _ _ R R).mono ?_
  rintro e w12 ⟨rfl, hw12⟩
  have g12 : Below w.heap.size w w12 := Below.call (by have := g11.size; go_grown) (by have := g11.size; simp; try omega) hw12
  have VCn := At5.of hw12 (VC)
  have VDn := At5.of hw12 (VD)
  have VEn := At5.of hw12 (VE)
  have VFn := At5.of hw12 (VF)
  have VGn := At5.of hw12 (VG)
  have VHn := At5.of hw12 (VH)
  have Rn := (R).below hw12
  clear VC VD VE VF VG VH R hw12 g11
  have VC := VCn
  clear VCn
  have VD := VDn
  clear VDn
  have VE := VEn
  clear VEn
  have VF := VFn
  clear VFn
  have VG := VGn
  clear VGn
  have VH := VHn
  clear VHn
  have R := Rn
  clear Rn
  clear VA VB x0 x1 x2 x3 x4 xa xb xc xd xe xl y0 y1 y2 y3 y4 ya yb yc yd ye yl
  obtain ⟨x0, x1, x2, x3, x4, xa, xb, xc, xd, xe, xl⟩ := id VC
  obtain ⟨y0, y1, y2, y3, y4, ya, yb, yc, yd, ye, yl⟩ := id VD
  go_wp2_with fail
  refine (same_any _ _ _ _ _ _ _ _ _ _ _ R R).mono ?_
  rintro e w13 ⟨rfl, hw13⟩
  have g13 : Below w.heap.size w w13 := Below.call (by have := g12.size; go_grown) (by have := g12.size; simp; try omega) hw13
  have VEn := At5.of hw13 (VE)
  have VFn := At5.of hw13 (VF)
  have VGn := At5.of hw13 (VG)
  have VHn := At5.of hw13 (VH)
  have Rn := (R).below hw13
  clear VE VF VG VH R hw13 g12
  have VE := VEn
  clear VEn
  have VF := VFn
  clear VFn
  have VG := VGn
  clear VGn
  have VH := VHn
  clear VHn
  have R := Rn
  clear Rn
  clear VC VD x0 x1 x2 x3 x4 xa xb xc xd xe xl y0 y1 y2 y3 y4 ya yb yc yd ye yl
  obtain ⟨x0, x1, x2, x3, x4, xa, xb, xc, xd, xe, xl⟩ := id VE
  obtain ⟨y0, y1, y2, y3, y4, ya, yb, yc, yd, ye, yl⟩ := id VF
  go_wp2_with fail
  refine (same_any _ _ _ _ _ _ _ _ _ _ _ R R).mono ?_
  rintro e w14 ⟨rfl, hw14⟩
  have g14 : Below w.heap.size w w14 := Below.call (by have := g13.size; go_grown) (by have := g13.size; simp; try omega) hw14
  have VGn := At5.of hw14 (VG)
  have VHn := At5.of hw14 (VH)
  have Rn := (R).below hw14
  clear VG VH R hw14 g13
  have VG := VGn
  clear VGn
  have VH := VHn
  clear VHn
  have R := Rn
  clear Rn
  clear VE VF x0 x1 x2 x3 x4 xa xb xc xd xe xl y0 y1 y2 y3 y4 ya yb yc yd ye yl
  obtain ⟨x0, x1, x2, x3, x4, xa, xb, xc, xd, xe, xl⟩ := id VG
  obtain ⟨y0, y1, y2, y3, y4, ya, yb, yc, yd, ye, yl⟩ := id VH
  go_wp2_with fail
  refine (same_any _ _ _ _ _ _ _ _ _ _ _ R R).mono ?_
  rintro e w15 ⟨rfl, hw15⟩
  have g15 := Below.call g14 g14.size hw15
  go_wp2
  go_ret
  exact ⟨rfl, g15⟩
end Go.Proofs.Ytfpchofihofojaa
namespace Go.Proofs.Ytfpchofihofojaa.drawMany
open Go.ChangeShapes Go.WideShapes Go.ChangeAt Go.RowKit Go.Joins
set_option linter.unusedVariables false

theorem own : ownKnob Try.prog.godebug = none := by kernel_rfl
theorem laidOut : laidOutB Try.prog = true := by kernel_rfl
theorem word_of {x : Int} (h : (Lit.int .u64 x).wf = true) : 0 ≤ x ∧ x ≤ 18446744073709551615 := by
  simp [Lit.wf, IntKind.min, IntKind.max, IntKind.signed, IntKind.bits] at h
  exact ⟨by omega, by omega⟩
theorem int_of {x : Int} (h : (Lit.int .i64 x).wf = true) : -9223372036854775808 ≤ x ∧ x ≤ 9223372036854775807 := by
  simp [Lit.wf, IntKind.min, IntKind.max, IntKind.signed, IntKind.bits] at h
  exact ⟨by omega, by omega⟩

set_option maxRecDepth 100000 in
theorem lifted (os : Os) (started : os.Started) (H : Type) (enc : TypeId × Value → H) :
    ReturnsInHanded {} Try.checked os 4 .any (Rows.drawManySpec.pre6 enc Try.prog Try.f4 Rows.drawManyRow.domain false) (Rows.drawManySpec.post enc Try.prog Try.f4 false true false false) := by
  refine returnsInHanded_of_change (C := Try.checked) own started (by kernel_rfl) Try.func4
    (ChangeSpec.witness6 (enc := enc) (C := Try.checked) false ⟨#[], #[.agg #[.int .i64 0, .int .u64 0, .int .u64 0, .slice none 0 0, .int .i64 0], .int .i64 0, .int .i64 0, .int .i64 0], []⟩ 8 (by kernel_rfl) (by kernel_rfl) (by kernel_rfl) (by kernel_rfl)) ?_
  intro W base args ds gs before hval0 hW hcnd _
  have hval : ∀ (j : Nat) t v, Try.f4.params[j]? = some t → args[j]? = some v → Value.okWide Try.prog W .any base t v := hval0
  have hW' := hW
  obtain ⟨p, q, hA0, hV, rfl, hfz, hnd⟩ := hW
  have hA : DataW.TrodAll enc Try.prog W 0 (fun _ => true) true Try.f4.params.toList args.toList ds p := hA0
  rw [Try.params4] at hA hval
  obtain ⟨v0, vs0, d0, ds0, p0, q0, hargs, rfl, rfl, h0, r0⟩ := trodAll_cons hA
  obtain ⟨v1, vs1, d1, ds1, p1, q1, rfl, rfl, rfl, h1, r1⟩ := trodAll_cons r0
  obtain ⟨v2, vs2, d2, ds2, p2, q2, rfl, rfl, rfl, h2, r2⟩ := trodAll_cons r1
  obtain ⟨v3, vs3, d3, ds3, p3, q3, rfl, rfl, rfl, h3, r3⟩ := trodAll_cons r2
  obtain ⟨rfl, rfl, rfl⟩ := trodAll_nil r3
  obtain rfl : args = #[v0, v1, v2, v3] := by cases args; simp_all
  obtain ⟨rfl, rfl⟩ := trodVars_none hV
  have k0 := h0
  have lt0 : ∀ x ∈ p0, x.block < W.heap.size := by obtain ⟨m, hm⟩ := k0; exact DataW.trod_lt m _ _ _ hm
  obtain ⟨k_0, s_0, i_0, q_0, ao_0, n_0, c_0, zs_0, rfl, bs0, bi0, bk0, bq0, hz0⟩ := open_source (hval 0 25 v0 rfl rfl) h0
  obtain ⟨a1, rfl, rfl, rfl, w1⟩ := open_int Try.underlying3 (hval 1 3 v1 rfl rfl) h1
  obtain ⟨a2, rfl, rfl, rfl, w2⟩ := open_int Try.underlying3 (hval 2 3 v2 rfl rfl) h2
  obtain ⟨a3, rfl, rfl, rfl, w3⟩ := open_int Try.underlying3 (hval 3 3 v3 rfl rfl) h3
  clear hA0 hval0
  refine (walk_many k_0 s_0 i_0 q_0 ao_0 n_0 c_0 zs_0 a1 a2 a3 bs0.1 bs0.2 bi0.1 bi0.2 bk0.1 bk0.2 bq0.1 bq0.2 (int_of w1).1 (int_of w1).2 (int_of w2).1 (int_of w2).2 (int_of w3).1 (int_of w3).2 W hz0).mono fun e W' ⟨he, bel⟩ => ?_
  subst he
  exact ⟨_, rfl, _, _, _, [], _, [], hW', trodAll_mk1 (shut_bool Try.underlying4 _), (trodAll_cons_mk (Below.trod laidOut (by kernel_rfl) (of_decide_eq_true (by kernel_rfl)) k0 bel lt0) (trodAll_cons_mk (shut_int Try.underlying3 w1) (trodAll_cons_mk (shut_int Try.underlying3 w2) (trodAll_cons_mk (shut_int Try.underlying3 w3) trodAll_mk0)))), rfl, bel.frame _, fun h => by cases h⟩

theorem over : Rows.drawManyRow.holds Try.pinned (OpenSpec.ofChange Rows.drawManySpec) :=
  OpenClaim.holds_of_wide 4 Try.f4 rfl rfl rfl rfl rfl rfl rfl ⟨rfl, rfl, rfl, rfl, rfl⟩ rfl rfl rfl rfl rfl (by kernel_rfl) Try.func4 (by kernel_rfl)
    (of_decide_eq_true (by kernel_rfl)) (by unfold Func.isWrapper; first | (rw [if_pos (by decide +kernel)]; kernel_rfl) | (rw [if_neg (by decide +kernel)]; exact ⟨rfl, rfl⟩))
    (fun os started H enc _ => lifted os started H enc)
theorem proved : Rows.DrawManySaid := over
#print axioms proved
end Go.Proofs.Ytfpchofihofojaa.drawMany
