/- within. least: the fewest parts. -/
import Derived.Test.YtmgjfmgkmlfjeaaDoorSpLeast
import Derived.BigRegion
import Derived.BigQuiet
namespace Go.Proofs.YtmgjfmgkmlfjeaaDoor
open Go.RowKit Go.Sort
set_option linter.unusedSimpArgs false
set_option linter.unusedVariables false

theorem OwnP.base {ty : TypeId} {w : World} {B B' : Nat} {v : Value} {es : List Sp} (h : OwnP ty w B v es) (hB : B' ≤ B) : OwnP ty w B' v es := by
  refine ⟨h.1, h.2.imp id ?_⟩
  rintro ⟨g', cap, cur, h1, h2, h3, h4⟩
  exact ⟨g', cap, cur, h1, Nat.le_trans hB h2, h3, h4⟩
theorem OwnP.set {ty : TypeId} {w : World} {B : Nat} {v : Value} {es : List Sp} (h : OwnP ty w B v es) {g : Nat} (hg : ∀ j, v.ownBlock = some j → j < g) (o : Nat) (x : Value) : OwnP ty (w.setCell ⟨g, o, none⟩ x) B v es := by
  refine ⟨h.1, h.2.imp id ?_⟩
  rintro ⟨g', cap, cur, h1, h2, h3, h4⟩
  refine ⟨g', cap, cur, h1, h2, ?_, h4⟩
  rw [heap_setCell_other _ _ _ _ (Nat.ne_of_lt (hg g' (by rw [h1]; rfl)))]
  exact h3
set_option maxHeartbeats 4000000 in
set_option maxRecDepth 100000 in
theorem within15_any {w : World} {v : Value} {L : List Sp} (p q : Int) (h : SpAt w v L) (hl : L.length ≤ 1000) :
    Calls Tryd.prog 34 #[v, .agg #[.int .i64 p, .int .i64 q]] w fun e w' => ∃ v', e = .returned v' ∧ OwnP 57 w' w.heap.size v' (inS15 p q L) ∧ Below w.heap.size w w' := by
  obtain ⟨i0, hi, hz0, hz1, hz2⟩ := info_parts Tryd.info_pt
  obtain ⟨a, cap, rfl, hcap, _, hcells⟩ := h
  have HC := Hid.mk7 hcells
  have HI := Hid.mk7 hi
  clear hcells hi
  have B0 := Hid.mk7 (below15 (Below.refl w.heap.size w) (.cells #[.int .i64 p, .int .i64 q] 29))
  have A0 := Hid.mk7 (Rv.new w (.int .i64 p) (.int .i64 q))
  go_enter Tryd.func34, Tryd.ntmps34
  go_wp2
  go_loopw [5, 10] (fun av iv wr => ∃ k : Nat, k ≤ L.length ∧ iv = .int .i64 (k : Nat) ∧ Hid (OwnP 57 wr (w.heap.size + 1) av (inS15 p q (L.take k))) ∧ Hid (Rv wr w.heap.size (.int .i64 p) (.int .i64 q)) ∧ Below w.heap.size w wr) (fun _ iv _ => L.length - (intOf iv).toNat)
  case atStart => exact ⟨0, Nat.zero_le _, rfl, OwnP.nil _ _ _, A0, B0.out⟩
  case round =>
    obtain ⟨k, hk, rfl, HO, HA, hb⟩ := hrel
    have hfl : (inS15 p q (L.take k)).length ≤ 1000 := Nat.le_trans (inS15_len _ _ _) (by simp; omega)
    by_cases hlt : k < L.length
    · obtain ⟨⟨x, y, z⟩, hr⟩ : ∃ r, L[k]? = some r := ⟨L[k], List.getElem?_eq_getElem hlt⟩
      obtain ⟨g, off, rfl, q0, q1, q2⟩ := HC.out k _ hr
      have c0 := cell_later7 hb (Nat.le_refl _) q0
      have c1 := cell_later7 hb (Nat.le_refl _) q1
      have c2 := cell_later7 hb (Nat.le_refl _) q2
      simp only at c0 c1 c2
      have HT := Hid.mk7 (inS15_take (a := p) (b := q) hr)
      have hsz := hb.size
      clear q0 q1 q2 hr A0 B0
      have HB1 := Hid.mk7 (below15 hb (.cells #[.int .i64 x, .int .i64 y, .int .i64 z] 57))
      have HA1 := Hid.mk7 (HA.out.alloc (.cells #[.int .i64 x, .int .i64 y, .int .i64 z] 57))
      have HP1 := Hid.mk7 (Rt.new 57 wr (.int .i64 x) (.int .i64 y) (.int .i64 z))
      have HO1 := Hid.mk7 (HO.out.alloc (.cells #[.int .i64 x, .int .i64 y, .int .i64 z] 57))
      have HSZ : Hid (w.heap.size < wr.heap.size) := HA.out.lt
      have HLT : Hid (∀ j, u5.ownBlock = some j → j < wr.heap.size) := fun j hj => (World.ownsRow.lt HO.out j hj).2
      clear HO HA
      go_wp2_with fail
      generalize hg7 : wr.heap.size = g7 at *
      generalize wr.alloc (.cells #[.int .i64 x, .int .i64 y, .int .i64 z] 57) = W at *
      have a0 := HA1.out.c0
      have a1 := HA1.out.c1
      have p0 := HP1.out.c0
      have p1 := HP1.out.c1
      have fz := HP1.out.fz
      go_region
      have HP2 : Hid (Rt 57 ((W.setCell ⟨g7, 0, none⟩ (.int .i64 (max x p))).setCell ⟨g7, 1, none⟩ (.int .i64 (min y q))).drew g7 (.int .i64 (max x p)) (.int .i64 (min y q)) (.int .i64 z)) := (HP1.out.set0 _).set1 _
      have HA2 : Hid (Rv ((W.setCell ⟨g7, 0, none⟩ (.int .i64 (max x p))).setCell ⟨g7, 1, none⟩ (.int .i64 (min y q))).drew w.heap.size (.int .i64 p) (.int .i64 q)) := (HA1.out.other (by have := HSZ.out; omega) _ _).other (by have := HSZ.out; omega) _ _
      have HO2 : Hid (OwnP 57 ((W.setCell ⟨g7, 0, none⟩ (.int .i64 (max x p))).setCell ⟨g7, 1, none⟩ (.int .i64 (min y q))).drew (w.heap.size + 1) u5 (inS15 p q (L.take k))) := (HO1.out.set HLT.out _ _).set HLT.out _ _
      have HB2 : Hid (Below w.heap.size w ((W.setCell ⟨g7, 0, none⟩ (.int .i64 (max x p))).setCell ⟨g7, 1, none⟩ (.int .i64 (min y q))).drew) := ((HB1.out.setCell (p := ⟨g7, 0, none⟩) (Nat.le_of_lt HSZ.out) _).setCell (p := ⟨g7, 1, none⟩) (Nat.le_of_lt HSZ.out) _).drew
      rw [show (if x < p then p else x) = max x p by split <;> omega, show (if q < y then q else y) = min y q by split <;> omega]
      clear HP1 HA1 HO1 HB1 a0 a1 p0 p1 fz
      generalize ((W.setCell ⟨g7, 0, none⟩ (.int .i64 (max x p))).setCell ⟨g7, 1, none⟩ (.int .i64 (min y q))).drew = W2 at *
      generalize max x p = X at *
      generalize min y q = Y at *
      have p0 := HP2.out.c0
      have p1 := HP2.out.c1
      have p2 := HP2.out.c2
      have hsz2 := HB2.out.size
      have hlt2 := HA2.out.lt
      by_cases hxy : X < Y
      · have hxd : decide (X < Y) = true := decide_eq_true hxy
        have HF : Hid (inS15 p q (L.take (k + 1)) = inS15 p q (L.take k) ++ [(X, Y, z)]) := by show _ = _; rw [HT.out, if_pos hxy]
        clear HT
        go_wp2_with (at_builtin; refine wpList_append_own _ rfl _ _ 53 rfl (w.heap.size + 1) 57 i0 (.agg #[.int .i64 0, .int .i64 0, .int .i64 0]) 3 24 Tryd.underlying53 HI.out hz0 hz1 hz2 rfl (by decide) _ _ _ rfl (World.ownsRow.alloc HO2.out _) ⟨_, 0, none⟩ 1 1 [.int .i64 X, .int .i64 Y, .int .i64 z] rfl rfl (three15 rfl _ _ _ _) (fun u hu => by simp at hu; rcases hu with rfl | rfl | rfl <;> rfl) (by unfold maxLen; omega) (by omega) (by simp; omega) ?_)
        intro v' w4 hown' hgrow _
        have HO3 : Hid (OwnP 57 w4 (w.heap.size + 1) v' (inS15 p q (L.take (k + 1)))) := by
          show OwnP _ _ _ _ _
          rw [HF.out]
          unfold OwnP
          rw [List.length_append, t3_append, t3_one]
          exact hown'
        have HAL := Hid.mk7 (HA2.out.alloc (.cells #[.int .i64 X, .int .i64 Y, .int .i64 z] 57))
        have HA3 : Hid (Rv w4 w.heap.size (.int .i64 p) (.int .i64 q)) := by
          refine (hgrow.block w.heap.size ?_ ?_).trans HAL.out
          · have := HAL.out.lt; exact this
          · intro e
            have := (World.ownsRow.lt HO2.out _ e.symm).1
            omega
        have HB3 : Hid (Below w.heap.size w w4) := (below15 HB2.out _).grown hgrow (by simp; omega) (fun j hj => by have := (World.ownsRow.lt (HO2.out) j hj).1; omega)
        clear HO2 HB2 hown' hgrow
        go_wp2
        go_roundw
        case rel => exact ⟨k + 1, by omega, by go_num, HO3, HA3, HB3.out⟩
        case measure => simp [intOf]; omega
      · have hxd : decide (X < Y) = false := decide_eq_false hxy
        have HO3 : Hid (OwnP 57 W2 (w.heap.size + 1) u5 (inS15 p q (L.take (k + 1)))) := by show OwnP _ _ _ _ _; rw [HT.out, if_neg hxy, List.append_nil]; exact HO2.out
        clear HT HO2
        go_wp2
        go_roundw
        case rel => exact ⟨k + 1, by omega, by go_num, HO3, HA2, HB2.out⟩
        case measure => simp [intOf]; omega
    · obtain rfl : k = L.length := by omega
      have HE : Hid (L.take L.length = L) := List.take_length
      go_wp2
      go_ret
      exact ⟨_, rfl, by have := HO.out; rw [HE.out] at this; exact this.base (by omega), hb⟩
end Go.Proofs.YtmgjfmgkmlfjeaaDoor
namespace Go.Proofs.YtmgjfmgkmlfjeaaDoor
open Go.RowKit Go.Sort
set_option linter.unusedSimpArgs false
set_option linter.unusedVariables false

theorem drewN15 {B : Nat} {a w : World} (h : Below B a w) (n : Nat) : Below B a (w.drewN n) := ⟨h.os, h.tape, h.output, h.size, h.block⟩
set_option maxHeartbeats 4000000 in
set_option maxRecDepth 100000 in
theorem rleast_any {w : World} {v : Value} {L : List Sp} (h : SpAt w v L) (hl : L.length ≤ 1000) :
    Calls Tryd.prog 37 #[v] w fun e w' => ∃ v', e = .returned v' ∧ OwnP 57 w' w.heap.size v' (fewS L) ∧ Below w.heap.size w w' := by
  obtain ⟨i0, hi, hz0, hz1, hz2⟩ := info_parts Tryd.info_pt
  obtain ⟨a, cap, rfl, hcap, _, hcells⟩ := h
  have HC := Hid.mk7 hcells
  have HI := Hid.mk7 hi
  clear hcells hi
  go_enter Tryd.func37, Tryd.ntmps37
  go_wp2
  go_loopw [3, 9] (fun av iv wr => ∃ k : Nat, k ≤ L.length ∧ iv = .int .i64 (k : Nat) ∧ Hid (OwnP 57 wr w.heap.size av (fewS (L.take k))) ∧ Below w.heap.size w wr) (fun _ iv _ => L.length - (intOf iv).toNat)
  case atStart => exact ⟨0, Nat.zero_le _, rfl, OwnP.nil _ _ _, Below.refl _ _⟩
  case round =>
    obtain ⟨k, hk, rfl, HO, hb⟩ := hrel
    have hfl : (fewS (L.take k)).length ≤ 1000 := Nat.le_trans (fewS_len _) (by simp; omega)
    by_cases hlt : k < L.length
    · obtain ⟨⟨x, y, z⟩, hr⟩ : ∃ r, L[k]? = some r := ⟨L[k], List.getElem?_eq_getElem hlt⟩
      obtain ⟨g, off, rfl, q0, q1, q2⟩ := HC.out k _ hr
      have c0 := cell_later7 hb (Nat.le_refl _) q0
      have c1 := cell_later7 hb (Nat.le_refl _) q1
      have c2 := cell_later7 hb (Nat.le_refl _) q2
      simp only at c0 c1 c2
      have HT := Hid.mk7 (fewS_take hr)
      have hsz := hb.size
      clear q0 q1 q2 hr
      have HB1 := Hid.mk7 (below15 hb (.cells #[.int .i64 x, .int .i64 y, .int .i64 z] 57))
      have HP1 := Hid.mk7 (Rt.new 57 wr (.int .i64 x) (.int .i64 y) (.int .i64 z))
      have HO1 := Hid.mk7 (HO.out.alloc (.cells #[.int .i64 x, .int .i64 y, .int .i64 z] 57))
      have HN := Hid.mk7 (nothing_any x y z (wr.alloc (.cells #[.int .i64 x, .int .i64 y, .int .i64 z] 57)))
      clear HO
      generalize fewS (L.take k) = M at *
      obtain ⟨ma, mcap, rfl, hmcap, hmg⟩ := own_shapeP HO1.out
      by_cases h1 : y ≤ x
      · have d1 : decide (y ≤ x) = true := decide_eq_true h1
        have HO2 : Hid (OwnP 57 (wr.alloc (.cells #[.int .i64 x, .int .i64 y, .int .i64 z] 57)) w.heap.size (.slice ma M.length mcap) (fewS (L.take (k + 1)))) := by
          show OwnP _ _ _ _ _
          rw [HT.out, pushS_skip (Or.inl h1)]
          exact HO1.out
        clear HO1 HT
        go_wp2
        go_roundw
        case rel => exact ⟨k + 1, by omega, by go_num, HO2, HB1.out⟩
        case measure => simp [intOf]; omega
      · have d1 : decide (y ≤ x) = false := decide_eq_false h1
        by_cases h2 : z = 0
        · have HTZ : Hid (fewS (L.take (k + 1)) = M) := by show _ = _; rw [HT.out, pushS_skip (Or.inr h2)]
          rw [show (z == 0) = true by simpa using h2] at HN
          clear h2 HT
          go_wp2_with fail
          refine HN.out.mono ?_
          rintro e w3 ⟨rfl, b3⟩
          have HO2 : Hid (OwnP 57 w3 w.heap.size (.slice ma M.length mcap) (fewS (L.take (k + 1)))) := by
            show OwnP _ _ _ _ _
            rw [HTZ.out]
            exact HO1.out.later b3
          have HB3 := Hid.mk7 (HB1.out.trans (b3.mono HB1.out.size))
          clear HO1 HB1 HP1 HN b3 HTZ
          go_wp2
          go_roundw
          case rel => exact ⟨k + 1, by omega, by go_num, HO2, HB3.out⟩
          case measure => simp [intOf]; omega
        · rw [show (z == 0) = false by simpa using h2] at HN
          have h1' : x < y := by omega
          go_wp2_with fail
          refine HN.out.mono ?_
          rintro e w3 ⟨rfl, b3⟩
          have HO3 := Hid.mk7 (HO1.out.later b3)
          have HB3 := Hid.mk7 (HB1.out.trans (b3.mono HB1.out.size))
          have HP3 := Hid.mk7 (HP1.out.later b3)
          have hsz3 := HB3.out.size
          clear HO1 HB1 HP1 HN b3 c0 c1 c2
          have p0 := HP3.out.c0
          have p1 := HP3.out.c1
          have p2 := HP3.out.c2
          rcases List.eq_nil_or_concat M with rfl | ⟨A, ⟨f', t', s'⟩, rfl⟩
          · have HTN : Hid (fewS (L.take (k + 1)) = [(x, y, z)]) := by show _ = _; rw [HT.out, pushS_nil h1' h2]
            clear HT hmg
            simp only [List.length_nil] at HO3 ⊢
            go_wp2_with fail
            go_quiet (fail)
            have HP4 : Hid (Rt 57 (w3.drewN nq) wr.heap.size (.int .i64 x) (.int .i64 y) (.int .i64 z)) := HP3.out
            have HO4 : Hid (OwnP 57 (w3.drewN nq) w.heap.size (.slice ma 0 mcap) []) := HO3.out
            have HB4 : Hid (Below w.heap.size w (w3.drewN nq)) := drewN15 HB3.out _
            clear HP3 HO3 HB3 p0 p1 p2
            generalize w3.drewN nq = w4 at *
            have p0 := HP4.out.c0
            have p1 := HP4.out.c1
            have p2 := HP4.out.c2
            have hsz4 := HB4.out.size
            go_wp2_with (at_builtin; refine wpList_append_own _ rfl _ _ 53 rfl w.heap.size 57 i0 (.agg #[.int .i64 0, .int .i64 0, .int .i64 0]) 3 24 Tryd.underlying53 HI.out hz0 hz1 hz2 rfl (by decide) _ _ _ rfl (World.ownsRow.alloc HO4.out _) ⟨_, 0, none⟩ 1 1 [.int .i64 x, .int .i64 y, .int .i64 z] rfl rfl (three15 rfl _ _ _ _) (fun u hu => by simp at hu; rcases hu with rfl | rfl | rfl <;> rfl) (by unfold maxLen; omega) (by omega) (by simp; omega) ?_)
            intro v' w5 hown' hgrow _
            have HO5 : Hid (OwnP 57 w5 w.heap.size v' (fewS (L.take (k + 1)))) := by
              show OwnP _ _ _ _ _
              rw [HTN.out]
              unfold OwnP
              rw [t3_one]
              exact hown'
            have HB5 : Hid (Below w.heap.size w w5) := (below15 HB4.out _).grown hgrow (by simp; omega) (fun j hj => by exact (World.ownsRow.lt (HO4.out) j hj).1)
            clear HO4 HB4 hown' hgrow
            go_wp2
            go_roundw
            case rel => exact ⟨k + 1, by omega, by go_num, HO5, HB5.out⟩
            case measure => simp [intOf]; omega
          · rw [List.concat_eq_append] at *
            have hlen : (A ++ [(f', t', s')]).length = A.length + 1 := by simp
            rw [hlen] at hfl hmcap
            obtain ⟨g2, rfl⟩ := hmg (by simp)
            have hO : w3.ownsRow w.heap.size 57 3 (.slice (some ⟨g2, 0, none⟩) (A.length + 1) mcap) (A.length + 1) (t3 (A ++ [(f', t', s')])) := by
              have := HO3.out
              unfold OwnP at this
              rw [hlen] at this
              exact this
            rw [hlen]
            have hget : (A ++ [(f', t', s')])[A.length]? = some (f', t', s') := by simp
            have m0 : w3.cell? ⟨g2, A.length * 3, none⟩ = some (.int .i64 f') := by rw [hO.cellAt _ (by omega)]; exact (t3_get hget).1
            have m1 : w3.cell? ⟨g2, A.length * 3 + 1, none⟩ = some (.int .i64 t') := by rw [hO.cellAt _ (by omega)]; exact (t3_get hget).2.1
            have m2 : w3.cell? ⟨g2, A.length * 3 + 2, none⟩ = some (.int .i64 s') := by rw [hO.cellAt _ (by omega)]; exact (t3_get hget).2.2
            have HO3 := Hid.mk7 hO
            have dk : decide (0 ≤ (A.length : Int)) = true := decide_eq_true (by omega)
            have HFO := Hid.mk7 (follows_any x y z f' t' s')
            clear hO hget hlen hmg
            have HTJ : Hid (x = t' ∧ z = s' → fewS (L.take (k + 1)) = A ++ [(f', y, s')]) := fun e => by rw [HT.out, pushS_join h1' h2 e.1 e.2]
            have HTN : Hid (¬ (x = t' ∧ z = s') → fewS (L.take (k + 1)) = A ++ [(f', t', s')] ++ [(x, y, z)]) := fun e => by rw [HT.out, pushS_new h1' h2 e]
            clear HT
            generalize hb' : decide (x = t' ∧ z = s') = b at *
            have HBB := Hid.mk7 hb'
            clear hb'
            go_wp2_with fail
            have y0 := cell_regrown p0
            have y1 := cell_regrown p1
            have y2 := cell_regrown p2
            have n0 := cell_regrown m0
            have n1 := cell_regrown m1
            have n2 := cell_regrown m2
            have HFC := Hid.mk7 (fun d os => Calls.regrown_of (HFO.out (grow (redrawn w3 d) os)))
            refine wp_region_quiet_below (by kernel_rfl) (by kernel_rfl) ?_
            repeat (go_big_quiet_step (first | (go_at_call 47; exact HFC.out _ _)))
            refine wpQuiet_nil ?_
            intro _ hw'
            obtain ⟨⟨dq, osq⟩, hw''⟩ := hw'
            subst hw''
            have bq := below_regrown w3 dq osq
            have HO4 : Hid (World.ownsRow (grow (redrawn w3 dq) osq) w.heap.size 57 3 (.slice (some ⟨g2, 0, none⟩) (A.length + 1) mcap) (A.length + 1) (t3 (A ++ [(f', t', s')]))) := by
              have hO : OwnP 57 w3 w.heap.size (.slice (some ⟨g2, 0, none⟩) (A.length + 1) mcap) (A ++ [(f', t', s')]) := by unfold OwnP; rw [List.length_append]; exact HO3.out
              have := hO.later bq
              unfold OwnP at this
              rw [List.length_append] at this
              exact this
            have HB4 : Hid (Below w.heap.size w (grow (redrawn w3 dq) osq)) := HB3.out.trans (bq.mono HB3.out.size)
            have HP4 := Hid.mk7 (HP3.out.later bq)
            clear y0 y1 y2 n0 n1 n2 p0 p1 p2 m0 m1 m2 HFC HFO HO3 HB3 HP3 bq
            generalize grow (redrawn w3 dq) osq = w4 at *
            have p0 := HP4.out.c0
            have p1 := HP4.out.c1
            have p2 := HP4.out.c2
            have hsz4 := HB4.out.size
            cases b with
            | true =>
              have HTE := Hid.mk7 (HTJ.out (by simpa using HBB.out))
              clear HTJ HTN HBB
              have fz := fun j => HO4.out.frozenAt j
              have m1 : w4.cell? ⟨g2, A.length * 3 + 1, none⟩ = some (.int .i64 t') := by
                rw [HO4.out.cellAt _ (by omega)]
                exact (t3_get (es := A ++ [(f', t', s')]) (i := A.length) (e := (f', t', s')) (by simp)).2.1
              go_wp2
              obtain ⟨h3, h4⟩ := HO4.out.stored (A.length * 3 + 1) (.int .i64 y)
              have e : (t3 (A ++ [(f', t', s')])).set (A.length * 3 + 1) (.int .i64 y) = t3 (A ++ [(f', y, s')]) := by
                rw [t3_append, t3_append, List.set_append_right _ _ (by rw [t3_length]; omega), t3_length, t3_one, t3_one, Nat.add_sub_cancel_left]
                rfl
              rw [e] at h3
              have HO5 : Hid (OwnP 57 (w4.setCell ⟨g2, A.length * 3 + 1, none⟩ (.int .i64 y)) w.heap.size (.slice (some ⟨g2, 0, none⟩) (A.length + 1) mcap) (fewS (L.take (k + 1)))) := by
                show OwnP _ _ _ _ _
                rw [HTE.out]
                unfold OwnP
                rw [List.length_append]
                exact h3
              have HB5 : Hid (Below w.heap.size w (w4.setCell ⟨g2, A.length * 3 + 1, none⟩ (.int .i64 y))) := HB4.out.setCell (p := ⟨g2, A.length * 3 + 1, none⟩) (World.ownsRow.lt HO4.out g2 rfl).1 _
              clear h3 h4 e HO4 HB4
              go_roundw
              case rel => exact ⟨k + 1, by omega, by go_num, HO5, HB5.out⟩
              case measure => simp [intOf]; omega
            | false =>
              have HTN := Hid.mk7 (HTN.out (by simpa using HBB.out))
              clear HTJ HBB
              go_wp2_with (at_builtin; refine wpList_append_own _ rfl _ _ 53 rfl w.heap.size 57 i0 (.agg #[.int .i64 0, .int .i64 0, .int .i64 0]) 3 24 Tryd.underlying53 HI.out hz0 hz1 hz2 rfl (by decide) _ _ _ rfl (World.ownsRow.alloc HO4.out _) ⟨_, 0, none⟩ 1 1 [.int .i64 x, .int .i64 y, .int .i64 z] rfl rfl (three15 rfl _ _ _ _) (fun u hu => by simp at hu; rcases hu with rfl | rfl | rfl <;> rfl) (by unfold maxLen; omega) (by omega) (by simp; omega) ?_)
              intro v' w5 hown' hgrow _
              have HO5 : Hid (OwnP 57 w5 w.heap.size v' (fewS (L.take (k + 1)))) := by
                show OwnP _ _ _ _ _
                rw [HTN.out]
                unfold OwnP
                rw [List.length_append, t3_append, t3_one, List.length_append]
                exact hown'
              have HB5 : Hid (Below w.heap.size w w5) := (below15 HB4.out _).grown hgrow (by simp; omega) (fun j hj => by exact (World.ownsRow.lt (HO4.out) j hj).1)
              clear HO4 HB4 hown' hgrow
              go_wp2
              go_roundw
              case rel => exact ⟨k + 1, by omega, by go_num, HO5, HB5.out⟩
              case measure => simp [intOf]; omega
    · obtain rfl : k = L.length := by omega
      have HE : Hid (L.take L.length = L) := List.take_length
      go_wp2
      go_ret
      exact ⟨_, rfl, by have := HO.out; rw [HE.out] at this; exact this, hb⟩
end Go.Proofs.YtmgjfmgkmlfjeaaDoor
