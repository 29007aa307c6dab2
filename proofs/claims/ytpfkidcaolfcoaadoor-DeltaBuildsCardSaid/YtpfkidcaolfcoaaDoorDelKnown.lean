/- 'known' of layer 11. -/
import Derived.Test.YtpfkidcaolfcoaaDoorDelHelp
namespace Go.Proofs.YtpfkidcaolfcoaaDoor
open Go.RowKit Go.Sort Go.Lib
set_option linter.unusedSimpArgs false
set_option linter.unusedVariables false

theorem Tab.nu {w : World} {tb : Nat × Nat} (h : Tab w tb) (o : Obj) : Tab (w.alloc o) tb := h.later ((RowKit.Below.refl _ _).alloc (Nat.le_refl _) o)
theorem fld_del (x y : Value) (W : World) : (Instr.field 24 (.agg #[x, y]) 1).run Tryd.prog W = .ok y W := by kernel_rfl
theorem vld_x : vld [120] = true := by decide
theorem k_flt : flt 3 [(1, 2, [120])] = 0 := by decide
theorem k_elG : elG 3 [] 0 [(1, 2, [120])] = [(0, 1, []), (0, 0, [120]), (2, 3, [])] := by decide
theorem k_is : isB 3 [(0, 1, []), (0, 0, [120]), (2, 3, [])] = true := by decide
theorem k_flt2 : flt 3 [(2, 3, []), (1, 2, [])] = 180 := by decide
theorem k_apl : cacc (apl (cel [(0, 1, []), (0, 0, [120]), (2, 3, [])]) (⟨#[97, 98, 99]⟩ : ByteArray).data.toList) = ⟨#[97, 120, 99]⟩ := by decide
set_option maxHeartbeats 4000000 in
set_option maxRecDepth 100000 in
theorem known11_any (w : World) (tb : Nat × Nat) (hT : Tab w tb) : Calls Tryd.prog 9 #[] w fun e w' => e = .returned (.bool true) ∧ RowKit.Below w.heap.size w w' := by
  have A1 := el_lit w [(1, 2, [120])] #[.int .i64 1, .int .i64 2, .string ⟨#[120]⟩] 47 rfl 1 rfl
  have B1 : RowKit.Below w.heap.size w (w.alloc (.cells #[.int .i64 1, .int .i64 2, .string ⟨#[120]⟩] 47)) := below_newE (RowKit.Below.refl _ _) _
  have HB := Hid.mk7 (build_v k_flt k_elG (by decide) (by intro e he; simp at he; subst he; simp) (by decide) (by decide) A1 (hT.later B1))
  have HB1 := Hid.mk7 B1
  have HT1 := Hid.mk7 (hT.later B1)
  clear A1 B1 hT
  go_enter Tryd.func9, Tryd.ntmps9
  go_wp2_with fail
  refine HB.out.mono ?_
  rintro e w1 ⟨v1, rfl, h1, b1⟩
  have EV1 := Hid.mk7 (h1.alloc (.cells #[.int .i64 3, v1] 24))
  have RD1 := Hid.mk7 (Rd.new w1 (.int .i64 3) v1)
  have TT1 := Hid.mk7 ((HT1.out.later b1).nu (.cells #[.int .i64 3, v1] 24))
  have G1 := Hid.mk7 (below_newE (HB1.out.trans (b1.mono HB1.out.size)) (.cells #[.int .i64 3, v1] 24))
  obtain ⟨a1, cap1, rfl, hc1, _, _⟩ := id h1
  simp only [List.length_cons, List.length_nil] at hc1
  clear h1 b1 HB HB1 HT1
  go_wp2_with fail
  refine (apply_v k_is rfl k_apl EV1.out TT1.out).mono ?_
  rintro e w2 ⟨rfl, b2⟩
  have EV2 := Hid.mk7 (EV1.out.later b2)
  have RD2 := Hid.mk7 (RD1.out.later b2)
  have TT2 := Hid.mk7 (TT1.out.later b2)
  have G2 := Hid.mk7 (G1.out.trans (b2.mono G1.out.size))
  have d0 := RD2.out.c0
  have d1 := RD2.out.c1
  clear EV1 RD1 TT1 G1 b2
  go_wp2_with fail
  refine (apply_lv k_is (by decide) EV2.out TT2.out).mono ?_
  rintro e w3 ⟨rfl, b3⟩
  clear d0 d1
  have EV3 := Hid.mk7 (EV2.out.later b3)
  have RD3 := Hid.mk7 (RD2.out.later b3)
  have TT3 := Hid.mk7 (TT2.out.later b3)
  have G3 := Hid.mk7 (G2.out.trans (b3.mono G2.out.size))
  have d0 := RD3.out.c0
  have d1 := RD3.out.c1
  clear EV2 RD2 TT2 G2 b3
  have A2 := Hid.mk7 (el_lit w3 [(2, 3, []), (1, 2, [])] #[.int .i64 2, .int .i64 3, .string ⟨#[]⟩, .int .i64 1, .int .i64 2, .string ⟨#[]⟩] 47 rfl 2 rfl)
  have b3' : RowKit.Below w3.heap.size w3 (w3.alloc (.cells #[.int .i64 2, .int .i64 3, .string ⟨#[]⟩, .int .i64 1, .int .i64 2, .string ⟨#[]⟩] 47)) := below_newE (RowKit.Below.refl _ _) _
  go_wp2_with fail
  refine (build_bv k_flt2 (by decide) (by intro e he; simp at he; rcases he with rfl | rfl <;> simp) (by decide) A2.out (TT3.out.later b3')).mono ?_
  rintro e w4 ⟨rfl, b4'⟩
  have b4 := b3'.trans (b4'.mono b3'.size)
  clear d0 d1 b4' b3' A2
  have EV4 := Hid.mk7 (EV3.out.later b4)
  have RD4 := Hid.mk7 (RD3.out.later b4)
  have TT4 := Hid.mk7 (TT3.out.later b4)
  have G4 := Hid.mk7 (G3.out.trans (b4.mono G3.out.size))
  have d0 := RD4.out.c0
  have d1 := RD4.out.c1
  clear EV3 RD3 TT3 G3 b4
  obtain ⟨_, _, e4, _, _, hcells⟩ := id EV4.out
  cases e4
  obtain ⟨g, off, rfl, _, _, p2⟩ := hcells 1 (0, 0, [120]) rfl
  have hx : cacc [120] = ⟨#[120]⟩ := rfl
  rw [hx] at p2
  have hgl : g < w4.heap.size := World.block_lt_of_cell? w4 ⟨g, _, none⟩ p2
  have hwl := RD4.out.lt
  have b5 : RowKit.Below w4.heap.size w4 (w4.alloc (.cells #[.int .i64 0, .slice none 0 0] 24)) := below_newE (RowKit.Below.refl _ _) _
  simp only [Nat.one_mul] at p2
  clear hcells hx
  go_wp2_with fail
  refine (is_v k_is (by intro e he; simp at he; rcases he with rfl | rfl | rfl <;> simp) (EV4.out.later b5) (TT4.out.later b5)).mono ?_
  rintro e w6 ⟨rfl, b6'⟩
  have b6 := b5.trans (b6'.mono b5.size)
  clear d0 d1 b6' b5 p2 hgl hwl
  have EV6 := Hid.mk7 (EV4.out.later b6)
  have RD6 := Hid.mk7 (RD4.out.later b6)
  have TT6 := Hid.mk7 (TT4.out.later b6)
  have G6 := Hid.mk7 (G4.out.trans (b6.mono G4.out.size))
  have d0 := RD6.out.c0
  have d1 := RD6.out.c1
  clear EV4 RD4 TT4 G4 b6
  go_wp2_with fail
  refine (size_v (z := 3) k_is (by decide) EV6.out TT6.out).mono ?_
  rintro e w7 ⟨rfl, b7⟩
  clear d0 d1
  have EV7 := Hid.mk7 (EV6.out.later b7)
  have RD7 := Hid.mk7 (RD6.out.later b7)
  have TT7 := Hid.mk7 (TT6.out.later b7)
  have G7 := Hid.mk7 (G6.out.trans (b7.mono G6.out.size))
  have d0 := RD7.out.c0
  have d1 := RD7.out.c1
  clear EV6 RD6 TT6 G6 b7
  go_wp2_with fail
  refine (adds_v (z := 1) k_is (by decide) EV7.out TT7.out).mono ?_
  rintro e w8 ⟨rfl, b8⟩
  clear d0 d1
  have EV8 := Hid.mk7 (EV7.out.later b8)
  have RD8 := Hid.mk7 (RD7.out.later b8)
  have TT8 := Hid.mk7 (TT7.out.later b8)
  have G8 := Hid.mk7 (G7.out.trans (b8.mono G7.out.size))
  have d0 := RD8.out.c0
  have d1 := RD8.out.c1
  clear EV7 RD7 TT7 G7 b8
  go_wp2_with fail
  refine (drops_v (z := 1) k_is (by decide) EV8.out TT8.out).mono ?_
  rintro e w9 ⟨rfl, b9⟩
  clear d0 d1
  have EV9 := Hid.mk7 (EV8.out.later b9)
  have RD9 := Hid.mk7 (RD8.out.later b9)
  have TT9 := Hid.mk7 (TT8.out.later b9)
  have G9 := Hid.mk7 (G8.out.trans (b9.mono G8.out.size))
  have d0 := RD9.out.c0
  have d1 := RD9.out.c1
  clear EV8 RD8 TT8 G8 b9
  go_wp2_with fail
  refine (same_v (t := true) (by simp) (by decide) EV9.out EV9.out).mono ?_
  rintro e w10 ⟨rfl, b10⟩
  clear d0 d1
  have EV10 := Hid.mk7 (EV9.out.later b10)
  have RD10 := Hid.mk7 (RD9.out.later b10)
  have TT10 := Hid.mk7 (TT9.out.later b10)
  have G10 := Hid.mk7 (G9.out.trans (b10.mono G9.out.size))
  have d0 := RD10.out.c0
  have d1 := RD10.out.c1
  clear EV9 RD9 TT9 G9 b10
  go_wp2_with fail
  refine (keep_v (m := 0) (es := []) 0 (by decide) (by decide) _).mono ?_
  rintro e w11 ⟨v11, rfl, h11, b11⟩
  obtain ⟨a11, cap11, rfl, _, _, _⟩ := h11
  have G11 := Hid.mk7 (G10.out.trans (b11.mono G10.out.size))
  clear EV10 RD10 TT10 G10 b11 d0 d1
  have hf : ∀ W : World, (Instr.field 24 (.agg #[.int .i64 0, .slice a11 0 cap11]) 1).run Tryd.prog W = .ok (.slice a11 0 cap11) W := fun W => fld_del _ _ _
  go_wp2
  go_ret
  exact ⟨rfl, G11.out⟩
end Go.Proofs.YtpfkidcaolfcoaaDoor
