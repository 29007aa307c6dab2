/- palinodelaw15's in, few. -/
import Derived.Test.YtmgjfmgkmlfjeaaDoorSpPutG
import Derived.Test.YtmgjfmgkmlfjeaaDoorTurnsP
namespace Go.Proofs.YtmgjfmgkmlfjeaaDoor
open Go.RowKit Go.Sort
set_option linter.unusedSimpArgs false
set_option linter.unusedVariables false

set_option maxHeartbeats 8000000 in
set_option maxRecDepth 100000 in
theorem lin15_any {w : World} {v : Value} {L : List Sp} (p q : Int) (h : SpAt w v L) (hl : L.length ≤ 1000) :
    Calls Tryd.prog 17 #[v, .agg #[.int .i64 p, .int .i64 q]] w fun e w' => ∃ v', e = .returned v' ∧ SpAt w' v' (inS15 p q L) ∧ Below w.heap.size w w' := by
  obtain ⟨i0, hi, hz0, hz1, hz2⟩ := info_parts Tryd.info_sp
  obtain ⟨a, cap, rfl, hcap, _, hcells⟩ := h
  have HC := Hid.mk7 hcells
  have HI := Hid.mk7 hi
  clear hcells hi
  have B0 := Hid.mk7 (below15 (Below.refl w.heap.size w) (.cells #[.int .i64 p, .int .i64 q] 29))
  have A0 := Hid.mk7 (Rv.new w (.int .i64 p) (.int .i64 q))
  go_enter Tryd.func17, Tryd.ntmps17
  go_wp2
  go_loopw [5, 6] (fun av iv wr => ∃ k : Nat, k ≤ L.length ∧ iv = .int .i64 (k : Nat) ∧ Hid (OwnP 24 wr (w.heap.size + 1) av (inS15 p q (L.take k))) ∧ Hid (Rv wr w.heap.size (.int .i64 p) (.int .i64 q)) ∧ Below w.heap.size w wr) (fun _ iv _ => L.length - (intOf iv).toNat)
  case atStart => exact ⟨0, Nat.zero_le _, rfl, OwnP.nil _ _ _, A0, B0.out⟩
  case round =>
    obtain ⟨k, hk, rfl, HO, HA, hb⟩ := hrel
    have hfl : (inS15 p q (L.take k)).length ≤ 1000 := Nat.le_trans (inS15_len _ _ _) (by simp; omega)
    by_cases hlt : k < L.length
    · obtain ⟨⟨x, y, z⟩, hr⟩ : ∃ r, L[k]? = some r := ⟨L[k], List.getElem?_eq_getElem hlt⟩
      obtain ⟨g, off, rfl, q0, q1, q2⟩ := HC.out k _ hr
      have c0 := cell_later7 hb (Nat.le_refl _) q0
      have c1 := cell_later7 hb (Nat.le_refl _) q1
      have c2 := cell_later7 hb (Nat.le_refl _) q2
      simp only at c0 c1 c2
      have HT := Hid.mk7 (inS15_take (a := p) (b := q) hr)
      have hsz := hb.size
      clear q0 q1 q2 hr A0 B0
      have HB1 := Hid.mk7 hb
      have a0 := HA.out.c0
      have a1 := HA.out.c1
      have HLT : Hid (∀ j, u5.ownBlock = some j → j < wr.heap.size) := fun j hj => (World.ownsRow.lt HO.out j hj).2
      have y0 := cell_regrown c0
      have y1 := cell_regrown c1
      have y2 := cell_regrown c2
      have u0 := cell_regrown a0
      have u1 := cell_regrown a1
      go_wp2_with fail
      refine wp_region_mixP [([0, 1, 2, 3, 4, 5, 6, 7, 8, 9, 10, 11, 12, 13, 14, 15, 16, 17, 18, 19, 20, 21], [22]), ([], [23])] (by kernel_rfl) (by kernel_rfl) ?_
      rintro x0 ⟨d0, rfl⟩
      have m0 := redrawn15 wr d0
      refine wpPlan_cons ?_
      simp only [pickAll, pickAt, List.nil_append, List.cons_append, List.append_nil]
      repeat (go_big_quiet_step (fail))
      refine wpQuiet_nil ?_
      rw [show (if x < p then p else x) = max x p by split <;> omega, show (if q < y then q else y) = min y q by split <;> omega]
      clear y0 y1 y2 u0 u1 a0 a1 c0 c1 c2
      go_wp2
      have HSS := Hid.mk7 m0.size
      have R1 := Hid.mk7 (below15 m0 (.cells #[.int .i64 0, .int .i64 0, .int .i64 0] 24))
      have S1 := Hid.mk7 (Rt.new 24 (redrawn wr d0) (.int .i64 0) (.int .i64 0) (.int .i64 0))
      refine mixNext15 R1.out ?_
      clear m0
      generalize (redrawn wr d0).alloc (.cells #[.int .i64 0, .int .i64 0, .int .i64 0] 24) = x1 at *
      generalize (redrawn wr d0).heap.size = g7 at *
      refine wpPlan_cons ?_
      simp only [pickAll, pickAt, List.nil_append, List.cons_append, List.append_nil]
      refine wpQuiet_nil ?_
      have z0 := S1.out.c0
      have z1 := S1.out.c1
      have z2 := S1.out.c2
      have fz := S1.out.fz
      have hl7 := S1.out.lt
      go_wp2
      refine mixNext_last ?_
      have HP2 := Hid.mk7 (S1.out.set (.int .i64 (max x p)) (.int .i64 (min y q)) (.int .i64 z))
      have R2 : Hid (Below wr.heap.size wr (((x1.setCell ⟨g7, 0, none⟩ (.int .i64 (max x p))).setCell ⟨g7, 1, none⟩ (.int .i64 (min y q))).setCell ⟨g7, 2, none⟩ (.int .i64 z))) := ((R1.out.setCell (p := ⟨g7, 0, none⟩) HSS.out _).setCell (p := ⟨g7, 1, none⟩) HSS.out _).setCell (p := ⟨g7, 2, none⟩) HSS.out _
      clear z0 z1 z2 fz hl7 S1 R1
      generalize ((x1.setCell ⟨g7, 0, none⟩ (.int .i64 (max x p))).setCell ⟨g7, 1, none⟩ (.int .i64 (min y q))).setCell ⟨g7, 2, none⟩ (.int .i64 z) = W2 at *
      have HA2 := Hid.mk7 (HA.out.later R2.out)
      have HO2 := Hid.mk7 (HO.out.later R2.out)
      have HB2 := Hid.mk7 (HB1.out.trans (R2.out.mono HB1.out.size))
      clear HO HA HB1 R2
      generalize max x p = X at *
      generalize min y q = Y at *
      have p0 := HP2.out.c0
      have p1 := HP2.out.c1
      have p2 := HP2.out.c2
      have hsz2 := HB2.out.size
      have hlt2 := HA2.out.lt
      by_cases hxy : X < Y
      · have hxd : decide (X < Y) = true := decide_eq_true hxy
        have HF : Hid (inS15 p q (L.take (k + 1)) = inS15 p q (L.take k) ++ [(X, Y, z)]) := by show _ = _; rw [HT.out, if_pos hxy]
        clear HT
        go_wp2_with (at_builtin; refine wpList_append_own _ rfl _ _ 22 rfl (w.heap.size + 1) 24 i0 (.agg #[.int .i64 0, .int .i64 0, .int .i64 0]) 3 24 Tryd.underlying22 HI.out hz0 hz1 hz2 rfl (by decide) _ _ _ rfl (World.ownsRow.alloc HO2.out _) ⟨_, 0, none⟩ 1 1 [.int .i64 X, .int .i64 Y, .int .i64 z] rfl rfl (three15 rfl _ _ _ _) (fun u hu => by simp at hu; rcases hu with rfl | rfl | rfl <;> rfl) (by unfold maxLen; omega) (by omega) (by simp; omega) ?_)
        intro v' w4 hown' hgrow _
        have HO3 : Hid (OwnP 24 w4 (w.heap.size + 1) v' (inS15 p q (L.take (k + 1)))) := by
          show OwnP _ _ _ _ _
          rw [HF.out]
          unfold OwnP
          rw [List.length_append, t3_append, t3_one]
          exact hown'
        have HAL := Hid.mk7 (HA2.out.alloc (.cells #[.int .i64 X, .int .i64 Y, .int .i64 z] 24))
        have HA3 : Hid (Rv w4 w.heap.size (.int .i64 p) (.int .i64 q)) := by
          refine (hgrow.block w.heap.size ?_ ?_).trans HAL.out
          · have := HAL.out.lt; exact this
          · intro e
            have := (World.ownsRow.lt HO2.out _ e.symm).1
            omega
        have HB3 : Hid (Below w.heap.size w w4) := (below15 HB2.out _).grown hgrow (by simp; omega) (fun j hj => by have := (World.ownsRow.lt (HO2.out) j hj).1; omega)
        clear HO2 HB2 hown' hgrow
        go_wp2
        go_roundw
        case rel => exact ⟨k + 1, by omega, by go_num, HO3, HA3, HB3.out⟩
        case measure => simp [intOf]; omega
      · have hxd : decide (X < Y) = false := decide_eq_false hxy
        have HO3 : Hid (OwnP 24 W2 (w.heap.size + 1) u5 (inS15 p q (L.take (k + 1)))) := by show OwnP _ _ _ _ _; rw [HT.out, if_neg hxy, List.append_nil]; exact HO2.out
        clear HT HO2
        go_wp2
        go_roundw
        case rel => exact ⟨k + 1, by omega, by go_num, HO3, HA2, HB2.out⟩
        case measure => simp [intOf]; omega
    · obtain rfl : k = L.length := by omega
      have HE : Hid (L.take L.length = L) := List.take_length
      have HOR := Hid.mk7 HO.out.row
      clear HO
      go_wp2
      go_ret
      exact ⟨_, rfl, by have := HOR.out; rw [HE.out] at this; exact this, hb⟩
end Go.Proofs.YtmgjfmgkmlfjeaaDoor
