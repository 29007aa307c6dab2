/- The law's known. -/
import Derived.Test.YtafhogfbjklboaaDoorBrkPut
import Derived.Test.YtafhogfbjklboaaDoorBrkWrap
namespace Go.Proofs.YtafhogfbjklboaaDoor
open Go.RowKit Go.Sort
set_option linter.unusedSimpArgs false
set_option linter.unusedVariables false

theorem kb_1 : pbE 5 [] = 0 ∧ pbL 5 [] = [5] := by decide
theorem kb_2 : pbE 2 [5] = 0 ∧ pbL 2 [5] = [2, 5] := by decide
theorem kb_3 : tkE 3 [2, 5] = 10 ∧ tkL 3 [2, 5] = [] := by decide
theorem kb_4 : tkE 2 [2, 5] = 0 ∧ tkL 2 [2, 5] = [5] := by decide
theorem kb_5 : wrE 4 (⟨#[97, 98, 99, 100, 101, 102, 103, 104]⟩ : ByteArray).data.toList = 0 ∧ wrR 4 (⟨#[97, 98, 99, 100, 101, 102, 103, 104]⟩ : ByteArray).data.toList = [4] := by decide +kernel
theorem kb_6 : wrE 3 (⟨#[97]⟩ : ByteArray).data.toList = 12 := by decide +kernel
theorem kb_7 : lnK 2 [2, 5] = 1 ∧ lnK 1 [2, 5] = 0 := by decide
theorem kb_8 : isK 6 [2, 5] = true ∧ isK 5 [2, 5] = false := by decide
set_option maxHeartbeats 8000000 in
set_option maxRecDepth 100000 in
theorem known16_any (w : World) (hU : UT w) :
    Calls Tryd.prog 9 #[] w fun e w' => e = .returned (.bool true) ∧ Below w.heap.size w w' := by
  have HU := Hid.mk7 hU
  have P1 := Hid.mk7 (put_any16 5 (nat_nil w) (by simp))
  rw [kb_1.1, kb_1.2] at P1
  clear hU
  go_enter Tryd.func9, Tryd.ntmps9
  go_wp2_with fail
  refine P1.out.mono ?_
  rintro e w1 ⟨v1, rfl, a1, b1⟩
  have P2 := Hid.mk7 (put_any16 2 a1 (by simp))
  rw [kb_2.1, kb_2.2] at P2
  have HU1 := Hid.mk7 (HU.out.later b1)
  have HB1 := Hid.mk7 b1
  clear b1 a1 HU P1
  go_wp2_with fail
  refine P2.out.mono ?_
  rintro e w2 ⟨v2, rfl, a2, b2⟩
  have HA2 := Hid.mk7 a2
  have HU2 := Hid.mk7 (HU1.out.later b2)
  have HB2 := Hid.mk7 (below_old HB1.out b2)
  have P3 := Hid.mk7 (take_any16 3 a2 (by simp))
  rw [kb_3.1, kb_3.2] at P3
  clear b2 a2 HU1 HB1 P2
  go_wp2_with fail
  refine P3.out.mono ?_
  rintro e w3 ⟨v3, rfl, a3, b3⟩
  have HA3 := Hid.mk7 (HA2.out.later b3)
  have HU3 := Hid.mk7 (HU2.out.later b3)
  have HB3 := Hid.mk7 (below_old HB2.out b3)
  have P4 := Hid.mk7 (take_any16 2 HA3.out (by simp))
  rw [kb_4.1, kb_4.2] at P4
  clear b3 a3 HU2 HB2 HA2 P3
  go_wp2_with fail
  refine P4.out.mono ?_
  rintro e w4 ⟨v4, rfl, a4, b4⟩
  have HA4 := Hid.mk7 (HA3.out.later b4)
  have HN4 := Hid.mk7 a4
  have HU4 := Hid.mk7 (HU3.out.later b4)
  have HB4 := Hid.mk7 (below_old HB3.out b4)
  have P5 := Hid.mk7 (wrap_any16 ⟨#[97, 98, 99, 100, 101, 102, 103, 104]⟩ 4 w4 (by decide) HU4.out)
  rw [kb_5.1, kb_5.2] at P5
  clear b4 a4 HU3 HB3 HA3 P4
  go_wp2_with fail
  refine P5.out.mono ?_
  rintro e w5 ⟨v5, rfl, a5, b5⟩
  have HA5 := Hid.mk7 (HA4.out.later b5)
  have HN5 := Hid.mk7 (HN4.out.later b5)
  have HW5 := Hid.mk7 a5
  have HU5 := Hid.mk7 (HU4.out.later b5)
  have HB5 := Hid.mk7 (below_old HB4.out b5)
  have P6 := Hid.mk7 (wrap_any16 ⟨#[97]⟩ 3 w5 (by decide) HU5.out)
  rw [kb_6] at P6
  clear b5 a5 HU4 HB4 HA4 HN4 P5
  go_wp2_with fail
  refine P6.out.mono ?_
  rintro e w6 ⟨v6, rfl, a6, b6⟩
  have HA6 := HA5.out.later b6
  have HN6 := HN5.out.later b6
  have HW6 := HW5.out.later b6
  have HB6 := Hid.mk7 (below_old HB5.out b6)
  have L1 := Hid.mk7 (line_any16 2 HA6 (by simp))
  have L2 := Hid.mk7 (line_any16 1 HA6 (by simp))
  have I1 := Hid.mk7 (is_any16 6 HA6 (by simp))
  have I2 := Hid.mk7 (is_any16 5 HA6 (by simp))
  rw [kb_7.1] at L1
  rw [kb_7.2] at L2
  rw [kb_8.1] at I1
  rw [kb_8.2] at I2
  obtain ⟨ga, capa, rfl⟩ := nat_shape HA6
  obtain ⟨gn, capn, rfl⟩ := nat_shape HN6
  obtain ⟨gw, capw, rfl⟩ := nat_shape HW6
  obtain ⟨g1, o1, rfl, c1⟩ := nat_cell HA6 (i := 0) (x := 2) rfl
  obtain ⟨g2, o2, rfl, c2⟩ := nat_cell HN6 (i := 0) (x := 5) rfl
  obtain ⟨g3, o3, rfl, c3⟩ := nat_cell HW6 (i := 0) (x := 4) rfl
  rw [Nat.add_zero] at c1 c2 c3
  have l2 : ([2, 5] : List Int).length = 2 := rfl
  have l5 : ([5] : List Int).length = 1 := rfl
  have l4 : ([4] : List Int).length = 1 := rfl
  rw [l2] at L1 L2 I1 I2 ⊢
  rw [l5, l4]
  clear HA6 HN6 HW6 b6 a6 HU5 HB5 HA5 HN5 HW5 P6 l2 l5 l4
  go_wp2_with fail
  refine L1.out.mono ?_
  rintro e w7 ⟨rfl, rfl⟩
  go_wp2_with fail
  refine L2.out.mono ?_
  rintro e w7 ⟨rfl, rfl⟩
  go_wp2_with fail
  refine I1.out.mono ?_
  rintro e w7 ⟨rfl, rfl⟩
  go_wp2_with fail
  refine I2.out.mono ?_
  rintro e w7 ⟨rfl, rfl⟩
  go_wp2
  go_ret
  exact ⟨rfl, HB6.out⟩
end Go.Proofs.YtafhogfbjklboaaDoor
