/- DeltaLeast walked. -/
import Derived.Test.YtpfkidcaolfcoaaDoorDelKnown
namespace Go.Proofs.YtpfkidcaolfcoaaDoor
open Go.RowKit Go.Sort Go.Lib
set_option linter.unusedSimpArgs false
set_option linter.unusedVariables false

theorem elAt_block {w : World} {g : Nat} {cells : Array Value} {t : TypeId} (es : List El) (h : w.heap[g]? = some (.cells cells t)) (hc : cells.toList = c3 es) (n : Nat) (hn : n = es.length) : ElAt w (.slice (some ⟨g, 0, none⟩) n n) es := by
  subst hn
  refine ⟨some ⟨g, 0, none⟩, _, rfl, Nat.le_refl _, (fun e => by cases e), fun i r hr => ⟨g, 0, rfl, ?_⟩⟩
  obtain ⟨q0, q1, q2⟩ := c3_get hr
  rw [← hc] at q0 q1 q2
  rw [cell_of_row w g _ cells t _ h, cell_of_row w g _ cells t _ h, cell_of_row w g _ cells t _ h]
  rw [Nat.zero_add]
  exact ⟨by simpa using q0, by simpa using q1, by simpa using q2⟩
theorem vld_y : vld [121] = true := by decide
theorem vld_ff : vld [255] = false := by decide
theorem least_yes {n k : Int} (h : 3 ≤ n ∧ n ≤ 102 ∧ 1 ≤ k ∧ k ≤ n - 2) : isB n [(0, k, []), (0, 0, [120]), (k, n, [])] = true := by
  rw [isB_spec]
  refine ⟨⟨by omega, by omega, by simp⟩, ?_, ?_, ?_⟩
  · simp [Nm]; omega
  · intro e he; simp at he; rcases he with rfl | rfl | rfl <;> first | exact vld_nil | exact vld_x
  · simp [szE]; omega
theorem least_no0 {n k : Int} : isB n [(0, k, []), (k, k, []), (k, n, [])] = false := by simp [isB, isR, isE]
theorem least_no1 {n k : Int} : isB n [(0, k, []), (k, n, [])] = false := by simp [isB, isR, isE]
theorem least_no2 {n : Int} : isB n [(0, 0, [120]), (0, 0, [121])] = false := by simp [isB, isR, isE]
theorem least_no3 {n k : Int} : isB n [(0, k, []), (0, 0, [120]), (k - 1, n, [])] = false := by
  simp [isB, isR, isE]; intros; omega
theorem least_no4 {n k : Int} : isB n [(0, k, []), (0, 0, [120]), (k, n + 1, [])] = false := by
  simp [isB, isR, isE]; intros; omega
theorem least_no5 {n k : Int} : isB n [(0, k, []), (0, 1, [120]), (k, n, [])] = false := by simp [isB, isR, isE]
theorem least_no6 {n k : Int} : isB n [(0, k, []), (0, 0, [255]), (k, n, [])] = false := by simp [isB, isR, isE, vld_ff]
theorem least_no7 {n k : Int} (h : k ≤ n - 2) : isB k [(0, k, []), (0, 0, [120]), (k, n, [])] = false := by
  simp [isB, isR, isE]; intros; omega
set_option maxHeartbeats 8000000 in
set_option maxRecDepth 100000 in
theorem least11_any (b at0 wh : Int) (hb : 0 ≤ b ∧ b ≤ 255) (ha : 0 ≤ at0 ∧ at0 ≤ 255) (hw : 0 ≤ wh ∧ wh ≤ 255) (w : World) (tb : Nat × Nat) (hT : Tab w tb) :
    Calls Tryd.prog 8 #[.int .u8 b, .int .u8 at0, .int .u8 wh] w fun e w' => e = .returned (.bool true) ∧ RowKit.Below w.heap.size w w' := by
  have HK := Hid.mk7 (known11_any w tb hT)
  have HT := Hid.mk7 hT
  have HTW := Hid.mk7 hT
  obtain ⟨n, hn⟩ : ∃ n, b % 100 + 3 = n := ⟨_, rfl⟩
  have hn1 : 3 ≤ n ∧ n ≤ 102 := by omega
  obtain ⟨k, hk⟩ : ∃ k, at0 % (n - 2) + 1 = k := ⟨_, rfl⟩
  have hk1 : 1 ≤ k ∧ k ≤ n - 2 := by
    have h1 := Int.emod_nonneg at0 (show n - 2 ≠ 0 by omega)
    have h2 := Int.emod_lt_of_pos at0 (show 0 < n - 2 by omega)
    omega
  have hn2 : ¬ n - 2 = 0 := by omega
  have IY := Hid.mk7 (least_yes (n := n) (k := k) (by omega))
  clear hT
  go_enter Tryd.func8, Tryd.ntmps8
  go_wp2_with fail
  refine HK.out.mono ?_
  rintro e w1 ⟨rfl, b1⟩
  have HT1 := HT.out.later b1
  have BL : Hid ((w1.alloc (.cells #[.int .i64 0, .int .i64 k, .string ⟨#[]⟩, .int .i64 0, .int .i64 0, .string ⟨#[120]⟩, .int .i64 k, .int .i64 n, .string ⟨#[]⟩] 53)).heap[w1.heap.size]? = some (.cells #[.int .i64 0, .int .i64 k, .string ⟨#[]⟩, .int .i64 0, .int .i64 0, .string ⟨#[120]⟩, .int .i64 k, .int .i64 n, .string ⟨#[]⟩] 53)) := heap_alloc_new w1 _
  have EV0 := Hid.mk7 ((elAt_block [(0, k, []), (0, 0, [120]), (k, n, [])] BL.out rfl 3 rfl).alloc (.cells #[.int .i64 n, .slice (some ⟨w1.heap.size, 0, none⟩) 3 3] 24))
  have BL0 : Hid (((w1.alloc (.cells #[.int .i64 0, .int .i64 k, .string ⟨#[]⟩, .int .i64 0, .int .i64 0, .string ⟨#[120]⟩, .int .i64 k, .int .i64 n, .string ⟨#[]⟩] 53)).alloc (.cells #[.int .i64 n, .slice (some ⟨w1.heap.size, 0, none⟩) 3 3] 24)).heap[w1.heap.size]? = some (.cells #[.int .i64 0, .int .i64 k, .string ⟨#[]⟩, .int .i64 0, .int .i64 0, .string ⟨#[120]⟩, .int .i64 k, .int .i64 n, .string ⟨#[]⟩] 53)) := (Below.heap_alloc _ _ _ (by simp)).trans BL.out
  have RD0 : Hid (Rd ((w1.alloc (.cells #[.int .i64 0, .int .i64 k, .string ⟨#[]⟩, .int .i64 0, .int .i64 0, .string ⟨#[120]⟩, .int .i64 k, .int .i64 n, .string ⟨#[]⟩] 53)).alloc (.cells #[.int .i64 n, .slice (some ⟨w1.heap.size, 0, none⟩) 3 3] 24)) (w1.heap.size + 1) (.int .i64 n) (.slice (some ⟨w1.heap.size, 0, none⟩) 3 3)) := Rd.new' (by simp) _ _
  have TT0 := Hid.mk7 ((HT1.nu (.cells #[.int .i64 0, .int .i64 k, .string ⟨#[]⟩, .int .i64 0, .int .i64 0, .string ⟨#[120]⟩, .int .i64 k, .int .i64 n, .string ⟨#[]⟩] 53)).nu (.cells #[.int .i64 n, .slice (some ⟨w1.heap.size, 0, none⟩) 3 3] 24))
  have G0 := Hid.mk7 (below_newE (below_newE b1 (.cells #[.int .i64 0, .int .i64 k, .string ⟨#[]⟩, .int .i64 0, .int .i64 0, .string ⟨#[120]⟩, .int .i64 k, .int .i64 n, .string ⟨#[]⟩] 53)) (.cells #[.int .i64 n, .slice (some ⟨w1.heap.size, 0, none⟩) 3 3] 24))
  have hle := b1.size
  clear HK HT HT1 b1 BL
  go_wp2_with fail
  refine (is_v IY.out (by intro e he; simp at he; rcases he with rfl | rfl | rfl <;> simp) EV0.out TT0.out).mono ?_
  rintro e w2 ⟨rfl, b2⟩
  have EV2 := Hid.mk7 (EV0.out.later b2)
  have BL2 : Hid (w2.heap[w1.heap.size]? = some (.cells #[.int .i64 0, .int .i64 k, .string ⟨#[]⟩, .int .i64 0, .int .i64 0, .string ⟨#[120]⟩, .int .i64 k, .int .i64 n, .string ⟨#[]⟩] 53)) := (b2.block _ (by simp; omega)).trans BL0.out
  have RD2 := Hid.mk7 (RD0.out.later b2)
  have TT2 := Hid.mk7 (TT0.out.later b2)
  have G2 := Hid.mk7 (G0.out.trans (b2.mono G0.out.size))
  clear EV0 BL0 RD0 TT0 G0 b2
  generalize hge : w1.heap.size = ge at *
  have hlt := RD2.out.lt
  have d0 := RD2.out.c0
  have d1 := RD2.out.c1
  have fz := RD2.out.fz
  have fe := fun j => frozen_of_row w2 ge j _ _ BL2.out
  have q0 : w2.cell? ⟨ge, 0, none⟩ = some (.int .i64 0) := cell_of_row w2 ge 0 _ _ _ BL2.out
  have q1 : w2.cell? ⟨ge, 1, none⟩ = some (.int .i64 k) := cell_of_row w2 ge 1 _ _ _ BL2.out
  have q2 : w2.cell? ⟨ge, 2, none⟩ = some (.string ⟨#[]⟩) := cell_of_row w2 ge 2 _ _ _ BL2.out
  have q3 : w2.cell? ⟨ge, 3, none⟩ = some (.int .i64 0) := cell_of_row w2 ge 3 _ _ _ BL2.out
  have q4 : w2.cell? ⟨ge, 4, none⟩ = some (.int .i64 0) := cell_of_row w2 ge 4 _ _ _ BL2.out
  have q5 : w2.cell? ⟨ge, 5, none⟩ = some (.string ⟨#[120]⟩) := cell_of_row w2 ge 5 _ _ _ BL2.out
  have q6 : w2.cell? ⟨ge, 6, none⟩ = some (.int .i64 k) := cell_of_row w2 ge 6 _ _ _ BL2.out
  have q7 : w2.cell? ⟨ge, 7, none⟩ = some (.int .i64 n) := cell_of_row w2 ge 7 _ _ _ BL2.out
  have q8 : w2.cell? ⟨ge, 8, none⟩ = some (.string ⟨#[]⟩) := cell_of_row w2 ge 8 _ _ _ BL2.out
  rcases (show wh % 8 = 0 ∨ wh % 8 = 1 ∨ wh % 8 = 2 ∨ wh % 8 = 3 ∨ wh % 8 = 4 ∨ wh % 8 = 5 ∨ wh % 8 = 6 ∨ wh % 8 = 7 from by omega) with hc | hc | hc | hc | hc | hc | hc | hc
  · have s1 := heap_setCell_same w2 ge 3 _ _ (.int .i64 k) BL2.out
    have s2 := heap_setCell_same (w2.setCell ⟨ge, 3, none⟩ (.int .i64 k)) ge 4 _ _ (.int .i64 k) s1
    have s3 := heap_setCell_same ((w2.setCell ⟨ge, 3, none⟩ (.int .i64 k)).setCell ⟨ge, 4, none⟩ (.int .i64 k)) ge 5 _ _ (.string ⟨#[]⟩) s2
    have BL3 : Hid ((((w2.setCell ⟨ge, 3, none⟩ (.int .i64 k)).setCell ⟨ge, 4, none⟩ (.int .i64 k)).setCell ⟨ge, 5, none⟩ (.string ⟨#[]⟩)).heap[ge]? = some (.cells #[.int .i64 0, .int .i64 k, .string ⟨#[]⟩, .int .i64 k, .int .i64 k, .string ⟨#[]⟩, .int .i64 k, .int .i64 n, .string ⟨#[]⟩] 53)) := by show _ = _; rw [s3]; simp
    have EV := Hid.mk7 (elAt_block [(0, k, []), (k, k, []), (k, n, [])] BL3.out rfl 3 rfl)
    have RD : Hid (Rd (((w2.setCell ⟨ge, 3, none⟩ (.int .i64 k)).setCell ⟨ge, 4, none⟩ (.int .i64 k)).setCell ⟨ge, 5, none⟩ (.string ⟨#[]⟩)) (ge + 1) (.int .i64 n) (.slice (some ⟨ge, 0, none⟩) 3 3)) := by unfold Rd; show _ = _; rw [heap_setCell_other _ _ _ _ (show (ge + 1 : Nat) ≠ ge from by omega)]; rw [heap_setCell_other _ _ _ _ (show (ge + 1 : Nat) ≠ ge from by omega)]; rw [heap_setCell_other _ _ _ _ (show (ge + 1 : Nat) ≠ ge from by omega)]; exact RD2.out
    have GG : Hid (RowKit.Below w.heap.size w (((w2.setCell ⟨ge, 3, none⟩ (.int .i64 k)).setCell ⟨ge, 4, none⟩ (.int .i64 k)).setCell ⟨ge, 5, none⟩ (.string ⟨#[]⟩))) := (((G2.out.setCell (p := ⟨ge, 3, none⟩) hle _).setCell (p := ⟨ge, 4, none⟩) hle _).setCell (p := ⟨ge, 5, none⟩) hle _)
    have TT : Hid (Tab (((w2.setCell ⟨ge, 3, none⟩ (.int .i64 k)).setCell ⟨ge, 4, none⟩ (.int .i64 k)).setCell ⟨ge, 5, none⟩ (.string ⟨#[]⟩)) tb) := HTW.out.later GG.out
    clear s1 s2 s3 BL3
    go_wp2_with fail
    have d0 := RD.out.c0
    have d1 := RD.out.c1
    clear q0 q1 q2 q3 q4 q5 q6 q7 q8 fz fe hlt EV2 RD2 TT2 G2 BL2
    generalize (((w2.setCell ⟨ge, 3, none⟩ (.int .i64 k)).setCell ⟨ge, 4, none⟩ (.int .i64 k)).setCell ⟨ge, 5, none⟩ (.string ⟨#[]⟩)) = W at *
    have IT := Hid.mk7 (least_no0 (n := n) (k := k))
    go_wp2_with fail
    refine (apply_fv IT.out (by intro e he; simp at he; rcases he with rfl | rfl | rfl <;> simp) EV.out TT.out).mono ?_
    rintro e w5 ⟨rfl, b5⟩
    have EV5 := Hid.mk7 (EV.out.later b5)
    have RD5 := Hid.mk7 (RD.out.later b5)
    have TT5 := Hid.mk7 (TT.out.later b5)
    have G5 := Hid.mk7 (GG.out.trans (b5.mono GG.out.size))
    have d0 := RD5.out.c0
    have d1 := RD5.out.c1
    clear EV RD TT GG b5
    go_wp2_with fail
    refine (is_v IT.out (by intro e he; simp at he; rcases he with rfl | rfl | rfl <;> simp) EV5.out TT5.out).mono ?_
    rintro e w6 ⟨rfl, b6⟩
    have EV6 := Hid.mk7 (EV5.out.later b6)
    have RD6 := Hid.mk7 (RD5.out.later b6)
    have TT6 := Hid.mk7 (TT5.out.later b6)
    have G6 := Hid.mk7 (G5.out.trans (b6.mono G5.out.size))
    clear EV5 RD5 TT5 G5 b6 d0 d1
    have d0 := RD6.out.c0
    have d1 := RD6.out.c1
    go_wp2_with fail
    refine (size_no IT.out (by intro e he; simp at he; rcases he with rfl | rfl | rfl <;> simp) EV6.out TT6.out).mono ?_
    rintro e w7 ⟨rfl, b7⟩
    have G7 := Hid.mk7 (G6.out.trans (b7.mono G6.out.size))
    clear EV6 RD6 TT6 G6 b7 d0 d1
    go_wp2
    go_ret
    exact ⟨rfl, G7.out⟩
  · have hs0 : (w2.setCell ⟨ge + 1, 1, none⟩ (.slice (some ⟨w2.heap.size, 0, none⟩) 2 2)).heap.size = w2.heap.size := by simp [World.setCell]
    have A3 : ((w2.setCell ⟨ge + 1, 1, none⟩ (.slice (some ⟨w2.heap.size, 0, none⟩) 2 2)).alloc (.cells #[.int .i64 0, .int .i64 k, .string ⟨#[]⟩, .int .i64 k, .int .i64 n, .string ⟨#[]⟩] 53)).heap[w2.heap.size]? = some (.cells #[.int .i64 0, .int .i64 k, .string ⟨#[]⟩, .int .i64 k, .int .i64 n, .string ⟨#[]⟩] 53) := by
      have := heap_alloc_new (w2.setCell ⟨ge + 1, 1, none⟩ (.slice (some ⟨w2.heap.size, 0, none⟩) 2 2)) (.cells #[.int .i64 0, .int .i64 k, .string ⟨#[]⟩, .int .i64 k, .int .i64 n, .string ⟨#[]⟩] 53)
      rw [hs0] at this
      exact this
    have EV : Hid (ElAt ((w2.setCell ⟨ge + 1, 1, none⟩ (.slice (some ⟨w2.heap.size, 0, none⟩) 2 2)).alloc (.cells #[.int .i64 0, .int .i64 k, .string ⟨#[]⟩, .int .i64 k, .int .i64 n, .string ⟨#[]⟩] 53)) (.slice (some ⟨w2.heap.size, 0, none⟩) 2 2) [(0, k, []), (k, n, [])]) := elAt_block [(0, k, []), (k, n, [])] A3 rfl 2 rfl
    have RD : Hid (Rd ((w2.setCell ⟨ge + 1, 1, none⟩ (.slice (some ⟨w2.heap.size, 0, none⟩) 2 2)).alloc (.cells #[.int .i64 0, .int .i64 k, .string ⟨#[]⟩, .int .i64 k, .int .i64 n, .string ⟨#[]⟩] 53)) (ge + 1) (.int .i64 n) (.slice (some ⟨w2.heap.size, 0, none⟩) 2 2)) := (RD2.out.set1 _).alloc _
    have GG : Hid (RowKit.Below w.heap.size w ((w2.setCell ⟨ge + 1, 1, none⟩ (.slice (some ⟨w2.heap.size, 0, none⟩) 2 2)).alloc (.cells #[.int .i64 0, .int .i64 k, .string ⟨#[]⟩, .int .i64 k, .int .i64 n, .string ⟨#[]⟩] 53))) := below_newE (G2.out.setCell (p := ⟨ge + 1, 1, none⟩) (by show _ ≤ ge + 1; omega) _) (.cells #[.int .i64 0, .int .i64 k, .string ⟨#[]⟩, .int .i64 k, .int .i64 n, .string ⟨#[]⟩] 53)
    have TT : Hid (Tab ((w2.setCell ⟨ge + 1, 1, none⟩ (.slice (some ⟨w2.heap.size, 0, none⟩) 2 2)).alloc (.cells #[.int .i64 0, .int .i64 k, .string ⟨#[]⟩, .int .i64 k, .int .i64 n, .string ⟨#[]⟩] 53)) tb) := HTW.out.later GG.out
    clear A3 hs0
    go_wp2_with fail
    have d0 := RD.out.c0
    have d1 := RD.out.c1
    clear q0 q1 q2 q3 q4 q5 q6 q7 q8 fz fe hlt EV2 RD2 TT2 G2 BL2
    generalize ((w2.setCell ⟨ge + 1, 1, none⟩ (.slice (some ⟨w2.heap.size, 0, none⟩) 2 2)).alloc (.cells #[.int .i64 0, .int .i64 k, .string ⟨#[]⟩, .int .i64 k, .int .i64 n, .string ⟨#[]⟩] 53)) = W at *
    generalize w2.heap.size = g2 at *
    have IT := Hid.mk7 (least_no1 (n := n) (k := k))
    go_wp2_with fail
    refine (apply_fv IT.out (by intro e he; simp at he; rcases he with rfl | rfl <;> simp) EV.out TT.out).mono ?_
    rintro e w5 ⟨rfl, b5⟩
    have EV5 := Hid.mk7 (EV.out.later b5)
    have RD5 := Hid.mk7 (RD.out.later b5)
    have TT5 := Hid.mk7 (TT.out.later b5)
    have G5 := Hid.mk7 (GG.out.trans (b5.mono GG.out.size))
    have d0 := RD5.out.c0
    have d1 := RD5.out.c1
    clear EV RD TT GG b5
    go_wp2_with fail
    refine (is_v IT.out (by intro e he; simp at he; rcases he with rfl | rfl <;> simp) EV5.out TT5.out).mono ?_
    rintro e w6 ⟨rfl, b6⟩
    have EV6 := Hid.mk7 (EV5.out.later b6)
    have RD6 := Hid.mk7 (RD5.out.later b6)
    have TT6 := Hid.mk7 (TT5.out.later b6)
    have G6 := Hid.mk7 (G5.out.trans (b6.mono G5.out.size))
    clear EV5 RD5 TT5 G5 b6 d0 d1
    have d0 := RD6.out.c0
    have d1 := RD6.out.c1
    go_wp2_with fail
    refine (size_no IT.out (by intro e he; simp at he; rcases he with rfl | rfl <;> simp) EV6.out TT6.out).mono ?_
    rintro e w7 ⟨rfl, b7⟩
    have G7 := Hid.mk7 (G6.out.trans (b7.mono G6.out.size))
    clear EV6 RD6 TT6 G6 b7 d0 d1
    go_wp2
    go_ret
    exact ⟨rfl, G7.out⟩
  · have hs0 : (w2.setCell ⟨ge + 1, 1, none⟩ (.slice (some ⟨w2.heap.size, 0, none⟩) 2 2)).heap.size = w2.heap.size := by simp [World.setCell]
    have A3 : ((w2.setCell ⟨ge + 1, 1, none⟩ (.slice (some ⟨w2.heap.size, 0, none⟩) 2 2)).alloc (.cells #[.int .i64 0, .int .i64 0, .string ⟨#[120]⟩, .int .i64 0, .int .i64 0, .string ⟨#[121]⟩] 53)).heap[w2.heap.size]? = some (.cells #[.int .i64 0, .int .i64 0, .string ⟨#[120]⟩, .int .i64 0, .int .i64 0, .string ⟨#[121]⟩] 53) := by
      have := heap_alloc_new (w2.setCell ⟨ge + 1, 1, none⟩ (.slice (some ⟨w2.heap.size, 0, none⟩) 2 2)) (.cells #[.int .i64 0, .int .i64 0, .string ⟨#[120]⟩, .int .i64 0, .int .i64 0, .string ⟨#[121]⟩] 53)
      rw [hs0] at this
      exact this
    have EV : Hid (ElAt ((w2.setCell ⟨ge + 1, 1, none⟩ (.slice (some ⟨w2.heap.size, 0, none⟩) 2 2)).alloc (.cells #[.int .i64 0, .int .i64 0, .string ⟨#[120]⟩, .int .i64 0, .int .i64 0, .string ⟨#[121]⟩] 53)) (.slice (some ⟨w2.heap.size, 0, none⟩) 2 2) [(0, 0, [120]), (0, 0, [121])]) := elAt_block [(0, 0, [120]), (0, 0, [121])] A3 rfl 2 rfl
    have RD : Hid (Rd ((w2.setCell ⟨ge + 1, 1, none⟩ (.slice (some ⟨w2.heap.size, 0, none⟩) 2 2)).alloc (.cells #[.int .i64 0, .int .i64 0, .string ⟨#[120]⟩, .int .i64 0, .int .i64 0, .string ⟨#[121]⟩] 53)) (ge + 1) (.int .i64 n) (.slice (some ⟨w2.heap.size, 0, none⟩) 2 2)) := (RD2.out.set1 _).alloc _
    have GG : Hid (RowKit.Below w.heap.size w ((w2.setCell ⟨ge + 1, 1, none⟩ (.slice (some ⟨w2.heap.size, 0, none⟩) 2 2)).alloc (.cells #[.int .i64 0, .int .i64 0, .string ⟨#[120]⟩, .int .i64 0, .int .i64 0, .string ⟨#[121]⟩] 53))) := below_newE (G2.out.setCell (p := ⟨ge + 1, 1, none⟩) (by show _ ≤ ge + 1; omega) _) (.cells #[.int .i64 0, .int .i64 0, .string ⟨#[120]⟩, .int .i64 0, .int .i64 0, .string ⟨#[121]⟩] 53)
    have TT : Hid (Tab ((w2.setCell ⟨ge + 1, 1, none⟩ (.slice (some ⟨w2.heap.size, 0, none⟩) 2 2)).alloc (.cells #[.int .i64 0, .int .i64 0, .string ⟨#[120]⟩, .int .i64 0, .int .i64 0, .string ⟨#[121]⟩] 53)) tb) := HTW.out.later GG.out
    clear A3 hs0
    go_wp2_with fail
    have d0 := RD.out.c0
    have d1 := RD.out.c1
    clear q0 q1 q2 q3 q4 q5 q6 q7 q8 fz fe hlt EV2 RD2 TT2 G2 BL2
    generalize ((w2.setCell ⟨ge + 1, 1, none⟩ (.slice (some ⟨w2.heap.size, 0, none⟩) 2 2)).alloc (.cells #[.int .i64 0, .int .i64 0, .string ⟨#[120]⟩, .int .i64 0, .int .i64 0, .string ⟨#[121]⟩] 53)) = W at *
    generalize w2.heap.size = g2 at *
    have IT := Hid.mk7 (least_no2 (n := n))
    go_wp2_with fail
    refine (apply_fv IT.out (by intro e he; simp at he; rcases he with rfl | rfl <;> simp) EV.out TT.out).mono ?_
    rintro e w5 ⟨rfl, b5⟩
    have EV5 := Hid.mk7 (EV.out.later b5)
    have RD5 := Hid.mk7 (RD.out.later b5)
    have TT5 := Hid.mk7 (TT.out.later b5)
    have G5 := Hid.mk7 (GG.out.trans (b5.mono GG.out.size))
    have d0 := RD5.out.c0
    have d1 := RD5.out.c1
    clear EV RD TT GG b5
    go_wp2_with fail
    refine (is_v IT.out (by intro e he; simp at he; rcases he with rfl | rfl <;> simp) EV5.out TT5.out).mono ?_
    rintro e w6 ⟨rfl, b6⟩
    have EV6 := Hid.mk7 (EV5.out.later b6)
    have RD6 := Hid.mk7 (RD5.out.later b6)
    have TT6 := Hid.mk7 (TT5.out.later b6)
    have G6 := Hid.mk7 (G5.out.trans (b6.mono G5.out.size))
    clear EV5 RD5 TT5 G5 b6 d0 d1
    have d0 := RD6.out.c0
    have d1 := RD6.out.c1
    go_wp2_with fail
    refine (size_no IT.out (by intro e he; simp at he; rcases he with rfl | rfl <;> simp) EV6.out TT6.out).mono ?_
    rintro e w7 ⟨rfl, b7⟩
    have G7 := Hid.mk7 (G6.out.trans (b7.mono G6.out.size))
    clear EV6 RD6 TT6 G6 b7 d0 d1
    go_wp2
    go_ret
    exact ⟨rfl, G7.out⟩
  · have s1 := heap_setCell_same w2 ge 6 _ _ (.int .i64 (k - 1)) BL2.out
    have BL3 : Hid ((w2.setCell ⟨ge, 6, none⟩ (.int .i64 (k - 1))).heap[ge]? = some (.cells #[.int .i64 0, .int .i64 k, .string ⟨#[]⟩, .int .i64 0, .int .i64 0, .string ⟨#[120]⟩, .int .i64 (k - 1), .int .i64 n, .string ⟨#[]⟩] 53)) := by show _ = _; rw [s1]; simp
    have EV := Hid.mk7 (elAt_block [(0, k, []), (0, 0, [120]), (k - 1, n, [])] BL3.out rfl 3 rfl)
    have RD : Hid (Rd (w2.setCell ⟨ge, 6, none⟩ (.int .i64 (k - 1))) (ge + 1) (.int .i64 n) (.slice (some ⟨ge, 0, none⟩) 3 3)) := by unfold Rd; show _ = _; rw [heap_setCell_other _ _ _ _ (show (ge + 1 : Nat) ≠ ge from by omega)]; exact RD2.out
    have GG : Hid (RowKit.Below w.heap.size w (w2.setCell ⟨ge, 6, none⟩ (.int .i64 (k - 1)))) := (G2.out.setCell (p := ⟨ge, 6, none⟩) hle _)
    have TT : Hid (Tab (w2.setCell ⟨ge, 6, none⟩ (.int .i64 (k - 1))) tb) := HTW.out.later GG.out
    clear s1 BL3
    go_wp2_with fail
    have d0 := RD.out.c0
    have d1 := RD.out.c1
    clear q0 q1 q2 q3 q4 q5 q6 q7 q8 fz fe hlt EV2 RD2 TT2 G2 BL2
    generalize (w2.setCell ⟨ge, 6, none⟩ (.int .i64 (k - 1))) = W at *
    have IT := Hid.mk7 (least_no3 (n := n) (k := k))
    go_wp2_with fail
    refine (apply_fv IT.out (by intro e he; simp at he; rcases he with rfl | rfl | rfl <;> simp) EV.out TT.out).mono ?_
    rintro e w5 ⟨rfl, b5⟩
    have EV5 := Hid.mk7 (EV.out.later b5)
    have RD5 := Hid.mk7 (RD.out.later b5)
    have TT5 := Hid.mk7 (TT.out.later b5)
    have G5 := Hid.mk7 (GG.out.trans (b5.mono GG.out.size))
    have d0 := RD5.out.c0
    have d1 := RD5.out.c1
    clear EV RD TT GG b5
    go_wp2_with fail
    refine (is_v IT.out (by intro e he; simp at he; rcases he with rfl | rfl | rfl <;> simp) EV5.out TT5.out).mono ?_
    rintro e w6 ⟨rfl, b6⟩
    have EV6 := Hid.mk7 (EV5.out.later b6)
    have RD6 := Hid.mk7 (RD5.out.later b6)
    have TT6 := Hid.mk7 (TT5.out.later b6)
    have G6 := Hid.mk7 (G5.out.trans (b6.mono G5.out.size))
    clear EV5 RD5 TT5 G5 b6 d0 d1
    have d0 := RD6.out.c0
    have d1 := RD6.out.c1
    go_wp2_with fail
    refine (size_no IT.out (by intro e he; simp at he; rcases he with rfl | rfl | rfl <;> simp) EV6.out TT6.out).mono ?_
    rintro e w7 ⟨rfl, b7⟩
    have G7 := Hid.mk7 (G6.out.trans (b7.mono G6.out.size))
    clear EV6 RD6 TT6 G6 b7 d0 d1
    go_wp2
    go_ret
    exact ⟨rfl, G7.out⟩
  · have s1 := heap_setCell_same w2 ge 7 _ _ (.int .i64 (n + 1)) BL2.out
    have BL3 : Hid ((w2.setCell ⟨ge, 7, none⟩ (.int .i64 (n + 1))).heap[ge]? = some (.cells #[.int .i64 0, .int .i64 k, .string ⟨#[]⟩, .int .i64 0, .int .i64 0, .string ⟨#[120]⟩, .int .i64 k, .int .i64 (n + 1), .string ⟨#[]⟩] 53)) := by show _ = _; rw [s1]; simp
    have EV := Hid.mk7 (elAt_block [(0, k, []), (0, 0, [120]), (k, n + 1, [])] BL3.out rfl 3 rfl)
    have RD : Hid (Rd (w2.setCell ⟨ge, 7, none⟩ (.int .i64 (n + 1))) (ge + 1) (.int .i64 n) (.slice (some ⟨ge, 0, none⟩) 3 3)) := by unfold Rd; show _ = _; rw [heap_setCell_other _ _ _ _ (show (ge + 1 : Nat) ≠ ge from by omega)]; exact RD2.out
    have GG : Hid (RowKit.Below w.heap.size w (w2.setCell ⟨ge, 7, none⟩ (.int .i64 (n + 1)))) := (G2.out.setCell (p := ⟨ge, 7, none⟩) hle _)
    have TT : Hid (Tab (w2.setCell ⟨ge, 7, none⟩ (.int .i64 (n + 1))) tb) := HTW.out.later GG.out
    clear s1 BL3
    go_wp2_with fail
    have d0 := RD.out.c0
    have d1 := RD.out.c1
    clear q0 q1 q2 q3 q4 q5 q6 q7 q8 fz fe hlt EV2 RD2 TT2 G2 BL2
    generalize (w2.setCell ⟨ge, 7, none⟩ (.int .i64 (n + 1))) = W at *
    have IT := Hid.mk7 (least_no4 (n := n) (k := k))
    go_wp2_with fail
    refine (apply_fv IT.out (by intro e he; simp at he; rcases he with rfl | rfl | rfl <;> simp) EV.out TT.out).mono ?_
    rintro e w5 ⟨rfl, b5⟩
    have EV5 := Hid.mk7 (EV.out.later b5)
    have RD5 := Hid.mk7 (RD.out.later b5)
    have TT5 := Hid.mk7 (TT.out.later b5)
    have G5 := Hid.mk7 (GG.out.trans (b5.mono GG.out.size))
    have d0 := RD5.out.c0
    have d1 := RD5.out.c1
    clear EV RD TT GG b5
    go_wp2_with fail
    refine (is_v IT.out (by intro e he; simp at he; rcases he with rfl | rfl | rfl <;> simp) EV5.out TT5.out).mono ?_
    rintro e w6 ⟨rfl, b6⟩
    have EV6 := Hid.mk7 (EV5.out.later b6)
    have RD6 := Hid.mk7 (RD5.out.later b6)
    have TT6 := Hid.mk7 (TT5.out.later b6)
    have G6 := Hid.mk7 (G5.out.trans (b6.mono G5.out.size))
    clear EV5 RD5 TT5 G5 b6 d0 d1
    have d0 := RD6.out.c0
    have d1 := RD6.out.c1
    go_wp2_with fail
    refine (size_no IT.out (by intro e he; simp at he; rcases he with rfl | rfl | rfl <;> simp) EV6.out TT6.out).mono ?_
    rintro e w7 ⟨rfl, b7⟩
    have G7 := Hid.mk7 (G6.out.trans (b7.mono G6.out.size))
    clear EV6 RD6 TT6 G6 b7 d0 d1
    go_wp2
    go_ret
    exact ⟨rfl, G7.out⟩
  · have s1 := heap_setCell_same w2 ge 3 _ _ (.int .i64 0) BL2.out
    have s2 := heap_setCell_same (w2.setCell ⟨ge, 3, none⟩ (.int .i64 0)) ge 4 _ _ (.int .i64 1) s1
    have BL3 : ((w2.setCell ⟨ge, 3, none⟩ (.int .i64 0)).setCell ⟨ge, 4, none⟩ (.int .i64 1)).heap[ge]? = some (.cells #[.int .i64 0, .int .i64 k, .string ⟨#[]⟩, .int .i64 0, .int .i64 1, .string ⟨#[120]⟩, .int .i64 k, .int .i64 n, .string ⟨#[]⟩] 53) := by rw [s2]; simp
    have BL4 : ((w2.setCell ⟨ge, 3, none⟩ (.int .i64 0)).setCell ⟨ge, 4, none⟩ (.int .i64 1)).drew.heap[ge]? = some (.cells #[.int .i64 0, .int .i64 k, .string ⟨#[]⟩, .int .i64 0, .int .i64 1, .string ⟨#[120]⟩, .int .i64 k, .int .i64 n, .string ⟨#[]⟩] 53) := BL3
    have EV := Hid.mk7 (elAt_block [(0, k, []), (0, 1, [120]), (k, n, [])] BL4 rfl 3 rfl)
    have RDD : ((w2.setCell ⟨ge, 3, none⟩ (.int .i64 0)).setCell ⟨ge, 4, none⟩ (.int .i64 1)).heap[ge + 1]? = some (.cells #[.int .i64 n, .slice (some ⟨ge, 0, none⟩) 3 3] 24) := by rw [heap_setCell_other _ _ _ _ (show (ge + 1 : Nat) ≠ ge from by omega), heap_setCell_other _ _ _ _ (show (ge + 1 : Nat) ≠ ge from by omega)]; exact RD2.out
    have RD : Hid (Rd ((w2.setCell ⟨ge, 3, none⟩ (.int .i64 0)).setCell ⟨ge, 4, none⟩ (.int .i64 1)).drew (ge + 1) (.int .i64 n) (.slice (some ⟨ge, 0, none⟩) 3 3)) := RDD
    have GG : Hid (RowKit.Below w.heap.size w ((w2.setCell ⟨ge, 3, none⟩ (.int .i64 0)).setCell ⟨ge, 4, none⟩ (.int .i64 1)).drew) := ((G2.out.setCell (p := ⟨ge, 3, none⟩) hle _).setCell (p := ⟨ge, 4, none⟩) hle _).drew
    have TT : Hid (Tab ((w2.setCell ⟨ge, 3, none⟩ (.int .i64 0)).setCell ⟨ge, 4, none⟩ (.int .i64 1)).drew tb) := HTW.out.later GG.out
    clear s1 s2 BL3 BL4 RDD
    go_wp2_with fail
    go_region
    all_goals
      go_wp2_with fail
      have d0 := RD.out.c0
      have d1 := RD.out.c1
      clear q0 q1 q2 q3 q4 q5 q6 q7 q8 fz fe hlt EV2 RD2 TT2 G2 BL2
      generalize ((w2.setCell ⟨ge, 3, none⟩ (.int .i64 0)).setCell ⟨ge, 4, none⟩ (.int .i64 1)).drew = W at *
      have IT := Hid.mk7 (least_no5 (n := n) (k := k))
      go_wp2_with fail
      refine (apply_fv IT.out (by intro e he; simp at he; rcases he with rfl | rfl | rfl <;> simp) EV.out TT.out).mono ?_
      rintro e w5 ⟨rfl, b5⟩
      have EV5 := Hid.mk7 (EV.out.later b5)
      have RD5 := Hid.mk7 (RD.out.later b5)
      have TT5 := Hid.mk7 (TT.out.later b5)
      have G5 := Hid.mk7 (GG.out.trans (b5.mono GG.out.size))
      have d0 := RD5.out.c0
      have d1 := RD5.out.c1
      clear EV RD TT GG b5
      go_wp2_with fail
      refine (is_v IT.out (by intro e he; simp at he; rcases he with rfl | rfl | rfl <;> simp) EV5.out TT5.out).mono ?_
      rintro e w6 ⟨rfl, b6⟩
      have EV6 := Hid.mk7 (EV5.out.later b6)
      have RD6 := Hid.mk7 (RD5.out.later b6)
      have TT6 := Hid.mk7 (TT5.out.later b6)
      have G6 := Hid.mk7 (G5.out.trans (b6.mono G5.out.size))
      clear EV5 RD5 TT5 G5 b6 d0 d1
      have d0 := RD6.out.c0
      have d1 := RD6.out.c1
      go_wp2_with fail
      refine (size_no IT.out (by intro e he; simp at he; rcases he with rfl | rfl | rfl <;> simp) EV6.out TT6.out).mono ?_
      rintro e w7 ⟨rfl, b7⟩
      have G7 := Hid.mk7 (G6.out.trans (b7.mono G6.out.size))
      clear EV6 RD6 TT6 G6 b7 d0 d1
      go_wp2
      go_ret
      exact ⟨rfl, G7.out⟩
  · have s1 := heap_setCell_same w2 ge 5 _ _ (.string ⟨#[255]⟩) BL2.out
    have BL3 : Hid ((w2.setCell ⟨ge, 5, none⟩ (.string ⟨#[255]⟩)).heap[ge]? = some (.cells #[.int .i64 0, .int .i64 k, .string ⟨#[]⟩, .int .i64 0, .int .i64 0, .string ⟨#[255]⟩, .int .i64 k, .int .i64 n, .string ⟨#[]⟩] 53)) := by show _ = _; rw [s1]; simp
    have EV := Hid.mk7 (elAt_block [(0, k, []), (0, 0, [255]), (k, n, [])] BL3.out rfl 3 rfl)
    have RD : Hid (Rd (w2.setCell ⟨ge, 5, none⟩ (.string ⟨#[255]⟩)) (ge + 1) (.int .i64 n) (.slice (some ⟨ge, 0, none⟩) 3 3)) := by unfold Rd; show _ = _; rw [heap_setCell_other _ _ _ _ (show (ge + 1 : Nat) ≠ ge from by omega)]; exact RD2.out
    have GG : Hid (RowKit.Below w.heap.size w (w2.setCell ⟨ge, 5, none⟩ (.string ⟨#[255]⟩))) := (G2.out.setCell (p := ⟨ge, 5, none⟩) hle _)
    have TT : Hid (Tab (w2.setCell ⟨ge, 5, none⟩ (.string ⟨#[255]⟩)) tb) := HTW.out.later GG.out
    clear s1 BL3
    go_wp2_with fail
    have d0 := RD.out.c0
    have d1 := RD.out.c1
    clear q0 q1 q2 q3 q4 q5 q6 q7 q8 fz fe hlt EV2 RD2 TT2 G2 BL2
    generalize (w2.setCell ⟨ge, 5, none⟩ (.string ⟨#[255]⟩)) = W at *
    have IT := Hid.mk7 (least_no6 (n := n) (k := k))
    go_wp2_with fail
    refine (apply_fv IT.out (by intro e he; simp at he; rcases he with rfl | rfl | rfl <;> simp) EV.out TT.out).mono ?_
    rintro e w5 ⟨rfl, b5⟩
    have EV5 := Hid.mk7 (EV.out.later b5)
    have RD5 := Hid.mk7 (RD.out.later b5)
    have TT5 := Hid.mk7 (TT.out.later b5)
    have G5 := Hid.mk7 (GG.out.trans (b5.mono GG.out.size))
    have d0 := RD5.out.c0
    have d1 := RD5.out.c1
    clear EV RD TT GG b5
    go_wp2_with fail
    refine (is_v IT.out (by intro e he; simp at he; rcases he with rfl | rfl | rfl <;> simp) EV5.out TT5.out).mono ?_
    rintro e w6 ⟨rfl, b6⟩
    have EV6 := Hid.mk7 (EV5.out.later b6)
    have RD6 := Hid.mk7 (RD5.out.later b6)
    have TT6 := Hid.mk7 (TT5.out.later b6)
    have G6 := Hid.mk7 (G5.out.trans (b6.mono G5.out.size))
    clear EV5 RD5 TT5 G5 b6 d0 d1
    have d0 := RD6.out.c0
    have d1 := RD6.out.c1
    go_wp2_with fail
    refine (size_no IT.out (by intro e he; simp at he; rcases he with rfl | rfl | rfl <;> simp) EV6.out TT6.out).mono ?_
    rintro e w7 ⟨rfl, b7⟩
    have G7 := Hid.mk7 (G6.out.trans (b7.mono G6.out.size))
    clear EV6 RD6 TT6 G6 b7 d0 d1
    go_wp2
    go_ret
    exact ⟨rfl, G7.out⟩
  · have EV : Hid (ElAt (w2.setCell ⟨ge + 1, 0, none⟩ (.int .i64 k)) (.slice (some ⟨ge, 0, none⟩) 3 3) [(0, k, []), (0, 0, [120]), (k, n, [])]) := elAt_block [(0, k, []), (0, 0, [120]), (k, n, [])] ((heap_setCell_other _ _ _ _ (show (ge : Nat) ≠ ge + 1 from by omega)).trans BL2.out) rfl 3 rfl
    have RD : Hid (Rd (w2.setCell ⟨ge + 1, 0, none⟩ (.int .i64 k)) (ge + 1) (.int .i64 k) (.slice (some ⟨ge, 0, none⟩) 3 3)) := RD2.out.set0 _
    have GG : Hid (RowKit.Below w.heap.size w (w2.setCell ⟨ge + 1, 0, none⟩ (.int .i64 k))) := (G2.out.setCell (p := ⟨ge + 1, 0, none⟩) (by show _ ≤ ge + 1; omega) _)
    have TT : Hid (Tab (w2.setCell ⟨ge + 1, 0, none⟩ (.int .i64 k)) tb) := HTW.out.later GG.out
    go_wp2_with fail
    have d0 := RD.out.c0
    have d1 := RD.out.c1
    clear q0 q1 q2 q3 q4 q5 q6 q7 q8 fz fe hlt EV2 RD2 TT2 G2 BL2
    generalize (w2.setCell ⟨ge + 1, 0, none⟩ (.int .i64 k)) = W at *
    have IT := Hid.mk7 (least_no7 (n := n) (k := k) (by omega))
    go_wp2_with fail
    refine (apply_fv IT.out (by intro e he; simp at he; rcases he with rfl | rfl | rfl <;> simp) EV.out TT.out).mono ?_
    rintro e w5 ⟨rfl, b5⟩
    have EV5 := Hid.mk7 (EV.out.later b5)
    have RD5 := Hid.mk7 (RD.out.later b5)
    have TT5 := Hid.mk7 (TT.out.later b5)
    have G5 := Hid.mk7 (GG.out.trans (b5.mono GG.out.size))
    have d0 := RD5.out.c0
    have d1 := RD5.out.c1
    clear EV RD TT GG b5
    go_wp2_with fail
    refine (is_v IT.out (by intro e he; simp at he; rcases he with rfl | rfl | rfl <;> simp) EV5.out TT5.out).mono ?_
    rintro e w6 ⟨rfl, b6⟩
    have EV6 := Hid.mk7 (EV5.out.later b6)
    have RD6 := Hid.mk7 (RD5.out.later b6)
    have TT6 := Hid.mk7 (TT5.out.later b6)
    have G6 := Hid.mk7 (G5.out.trans (b6.mono G5.out.size))
    clear EV5 RD5 TT5 G5 b6 d0 d1
    have d0 := RD6.out.c0
    have d1 := RD6.out.c1
    go_wp2_with fail
    refine (size_no IT.out (by intro e he; simp at he; rcases he with rfl | rfl | rfl <;> simp) EV6.out TT6.out).mono ?_
    rintro e w7 ⟨rfl, b7⟩
    have G7 := Hid.mk7 (G6.out.trans (b7.mono G6.out.size))
    clear EV6 RD6 TT6 G6 b7 d0 d1
    go_wp2
    go_ret
    exact ⟨rfl, G7.out⟩
end Go.Proofs.YtpfkidcaolfcoaaDoor
