/- palinodelaw14's known. -/
import Derived.Test.YtelpinngimohoaaDoorOffHelp
namespace Go.Proofs.YtelpinngimohoaaDoor
open Go.RowKit Go.Sort Go.Lib
set_option linter.unusedSimpArgs false
set_option linter.unusedVariables false

theorem k14_fa : flt 4 [(2, 2, [120])] = 0 := by decide
theorem k14_ga : elG 4 [] 0 [(2, 2, [120])] = [(0, 2, []), (0, 0, [120]), (2, 4, [])] := by decide
theorem k14_sm : Sm [(0, 2, []), (0, 0, [120]), (2, 4, [])] 20000 := fun e he => by simp at he; rcases he with rfl | rfl | rfl <;> simp
theorem k14_m0 : mvV 4 [(0, 2, []), (0, 0, [120]), (2, 4, [])] 2 false = 2 := by decide
theorem k14_m1 : mvV 4 [(0, 2, []), (0, 0, [120]), (2, 4, [])] 2 true = 3 := by decide
theorem k14_m2 : mvV 4 [(0, 2, []), (0, 0, [120]), (2, 4, [])] 3 false = 4 := by decide
theorem k14_b0 : bkV 4 [(0, 2, []), (0, 0, [120]), (2, 4, [])] 2 = 2 := by decide
theorem k14_b1 : bkV 4 [(0, 2, []), (0, 0, [120]), (2, 4, [])] 3 = 2 := by decide
theorem k14_b2 : bkV 4 [(0, 2, []), (0, 0, [120]), (2, 4, [])] 5 = 4 := by decide
theorem k14_s0 : (isB 4 [(0, 2, []), (0, 0, [120]), (2, 4, [])] && stB [(0, 2, []), (0, 0, [120]), (2, 4, [])] 1) = true := by decide
theorem k14_s1 : (isB 4 [(0, 2, []), (0, 0, [120]), (2, 4, [])] && stB [(0, 2, []), (0, 0, [120]), (2, 4, [])] 4) = false := by decide
theorem k14_i0 : mvV 4 [(0, 2, []), (0, 0, [120]), (2, 4, [])] 2 true = 3 := by decide
theorem k14_i1 : max (mvV 4 [(0, 2, []), (0, 0, [120]), (2, 4, [])] 2 true) (mvV 4 [(0, 2, []), (0, 0, [120]), (2, 4, [])] 4 false) = 5 := by decide
theorem k14_z : mvV (-1) [] 0 true = 0 := by decide
set_option maxHeartbeats 4000000 in
set_option maxRecDepth 100000 in
theorem known14_any (w : World) (tb : Nat × Nat) (hT : Tab w tb) : Calls Tryd.prog 8 #[] w fun e w' => e = .returned (.bool true) ∧ RowKit.Below w.heap.size w w' := by
  have T0 := Hid.mk7 hT
  have G0 := Hid.mk7 (RowKit.Below.refl w.heap.size w)
  clear hT
  go_enter Tryd.func8, Tryd.ntmps8
  have bz : RowKit.Below w.heap.size w (w.alloc (.cells #[.int .i64 2, .int .i64 2, .string ⟨#[120]⟩] 38)) := below_newE (RowKit.Below.refl _ _) _
  have A0 := Hid.mk7 (el_lit w [(2, 2, [120])] #[.int .i64 2, .int .i64 2, .string ⟨#[120]⟩] 38 rfl 1 rfl)
  have T1 := Hid.mk7 (T0.out.later bz)
  have G1 := Hid.mk7 (G0.out.trans (bz.mono G0.out.size))
  clear T0 G0 bz
  go_wp2_with fail
  refine (build_v k14_fa k14_ga (by decide) (by intro e he; simp at he; subst he; simp) (by decide) (by decide) A0.out T1.out).mono ?_
  rintro e w2 ⟨v1, rfl, h1, bz⟩
  obtain ⟨a1, c1, rfl, _, _, _⟩ := id h1
  have T3 := Hid.mk7 (T1.out.later bz)
  have G3 := Hid.mk7 (G1.out.trans (bz.mono G1.out.size))
  have A3 := Hid.mk7 (A0.out.later bz)
  clear T1 G1 A0 bz
  have EA4 := Hid.mk7 (h1)
  clear h1
  clear A3
  simp only [List.length_cons, List.length_nil, Nat.zero_add, Nat.reduceAdd] at *
  have bz : RowKit.Below w2.heap.size w2 (w2.alloc (.cells #[.int .i64 4, .slice a1 3 c1] 24)) := below_newE (RowKit.Below.refl _ _) _
  have nw5 := Hid.mk7 (@Rd.new w2 (.int .i64 4) (.slice a1 3 c1))
  have T6 := Hid.mk7 (T3.out.later bz)
  have G6 := Hid.mk7 (G3.out.trans (bz.mono G3.out.size))
  have EA6 := Hid.mk7 (EA4.out.later bz)
  clear T3 G3 EA4 bz
  have HST := Hid.mk7 k14_sm
  have RAc0 := nw5.out.c0
  have RAc1 := nw5.out.c1
  go_wp2_with fail
  refine (move_v k14_m0 HST.out EA6.out T6.out).mono ?_
  rintro e w7 ⟨rfl, bz⟩
  clear RAc0 RAc1
  have T8 := Hid.mk7 (T6.out.later bz)
  have G8 := Hid.mk7 (G6.out.trans (bz.mono G6.out.size))
  have EA8 := Hid.mk7 (EA6.out.later bz)
  have RA8 := Hid.mk7 (nw5.out.later bz)
  clear T6 G6 EA6 nw5 bz
  have RAc0 := RA8.out.c0
  have RAc1 := RA8.out.c1
  go_wp2_with fail
  refine (move_v k14_m1 HST.out EA8.out T8.out).mono ?_
  rintro e w9 ⟨rfl, bz⟩
  clear RAc0 RAc1
  have T10 := Hid.mk7 (T8.out.later bz)
  have G10 := Hid.mk7 (G8.out.trans (bz.mono G8.out.size))
  have EA10 := Hid.mk7 (EA8.out.later bz)
  have RA10 := Hid.mk7 (RA8.out.later bz)
  clear T8 G8 EA8 RA8 bz
  have RAc0 := RA10.out.c0
  have RAc1 := RA10.out.c1
  go_wp2_with fail
  refine (move_v k14_m2 HST.out EA10.out T10.out).mono ?_
  rintro e w11 ⟨rfl, bz⟩
  clear RAc0 RAc1
  have T12 := Hid.mk7 (T10.out.later bz)
  have G12 := Hid.mk7 (G10.out.trans (bz.mono G10.out.size))
  have EA12 := Hid.mk7 (EA10.out.later bz)
  have RA12 := Hid.mk7 (RA10.out.later bz)
  clear T10 G10 EA10 RA10 bz
  have RAc0 := RA12.out.c0
  have RAc1 := RA12.out.c1
  go_wp2_with fail
  refine (back_v k14_b0 HST.out EA12.out T12.out).mono ?_
  rintro e w13 ⟨rfl, bz⟩
  clear RAc0 RAc1
  have T14 := Hid.mk7 (T12.out.later bz)
  have G14 := Hid.mk7 (G12.out.trans (bz.mono G12.out.size))
  have EA14 := Hid.mk7 (EA12.out.later bz)
  have RA14 := Hid.mk7 (RA12.out.later bz)
  clear T12 G12 EA12 RA12 bz
  have RAc0 := RA14.out.c0
  have RAc1 := RA14.out.c1
  go_wp2_with fail
  refine (back_v k14_b1 HST.out EA14.out T14.out).mono ?_
  rintro e w15 ⟨rfl, bz⟩
  clear RAc0 RAc1
  have T16 := Hid.mk7 (T14.out.later bz)
  have G16 := Hid.mk7 (G14.out.trans (bz.mono G14.out.size))
  have EA16 := Hid.mk7 (EA14.out.later bz)
  have RA16 := Hid.mk7 (RA14.out.later bz)
  clear T14 G14 EA14 RA14 bz
  have RAc0 := RA16.out.c0
  have RAc1 := RA16.out.c1
  go_wp2_with fail
  refine (back_v k14_b2 HST.out EA16.out T16.out).mono ?_
  rintro e w17 ⟨rfl, bz⟩
  clear RAc0 RAc1
  have T18 := Hid.mk7 (T16.out.later bz)
  have G18 := Hid.mk7 (G16.out.trans (bz.mono G16.out.size))
  have EA18 := Hid.mk7 (EA16.out.later bz)
  have RA18 := Hid.mk7 (RA16.out.later bz)
  clear T16 G16 EA16 RA16 bz
  have RAc0 := RA18.out.c0
  have RAc1 := RA18.out.c1
  go_wp2_with fail
  refine (stays_v k14_s0 HST.out EA18.out T18.out).mono ?_
  rintro e w19 ⟨rfl, bz⟩
  clear RAc0 RAc1
  have T20 := Hid.mk7 (T18.out.later bz)
  have G20 := Hid.mk7 (G18.out.trans (bz.mono G18.out.size))
  have EA20 := Hid.mk7 (EA18.out.later bz)
  have RA20 := Hid.mk7 (RA18.out.later bz)
  clear T18 G18 EA18 RA18 bz
  have RAc0 := RA20.out.c0
  have RAc1 := RA20.out.c1
  go_wp2_with fail
  refine (stays_v k14_s1 HST.out EA20.out T20.out).mono ?_
  rintro e w21 ⟨rfl, bz⟩
  clear RAc0 RAc1
  have T22 := Hid.mk7 (T20.out.later bz)
  have G22 := Hid.mk7 (G20.out.trans (bz.mono G20.out.size))
  have EA22 := Hid.mk7 (EA20.out.later bz)
  have RA22 := Hid.mk7 (RA20.out.later bz)
  clear T20 G20 EA20 RA20 bz
  have RAc0 := RA22.out.c0
  have RAc1 := RA22.out.c1
  go_wp2_with fail
  refine (interval_v k14_i0 k14_i1 HST.out EA22.out T22.out).mono ?_
  rintro e w23 ⟨rfl, bz⟩
  clear RAc0 RAc1
  have T24 := Hid.mk7 (T22.out.later bz)
  have G24 := Hid.mk7 (G22.out.trans (bz.mono G22.out.size))
  have EA24 := Hid.mk7 (EA22.out.later bz)
  have RA24 := Hid.mk7 (RA22.out.later bz)
  clear T22 G22 EA22 RA22 bz
  have RAc0 := RA24.out.c0
  have RAc1 := RA24.out.c1
  go_wp2_with fail
  refine (move_v k14_z (fun e he => by cases he) (ElAt.nil _) T24.out).mono ?_
  rintro e w25 ⟨rfl, bz⟩
  clear RAc0 RAc1
  have T26 := Hid.mk7 (T24.out.later bz)
  have G26 := Hid.mk7 (G24.out.trans (bz.mono G24.out.size))
  have EA26 := Hid.mk7 (EA24.out.later bz)
  have RA26 := Hid.mk7 (RA24.out.later bz)
  clear T24 G24 EA24 RA24 bz
  go_wp2
  go_ret
  exact ⟨rfl, G26.out⟩
end Go.Proofs.YtelpinngimohoaaDoor
