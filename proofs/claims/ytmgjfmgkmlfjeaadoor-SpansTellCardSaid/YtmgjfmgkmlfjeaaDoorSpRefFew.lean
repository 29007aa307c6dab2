/- The reference's fewest. -/
import Derived.Test.YtmgjfmgkmlfjeaaDoorSpFew
import Derived.Test.YtmgjfmgkmlfjeaaDoorSpPutG
namespace Go.Proofs.YtmgjfmgkmlfjeaaDoor
open Go.RowKit Go.Sort
set_option linter.unusedSimpArgs false
set_option linter.unusedVariables false

set_option maxHeartbeats 8000000 in
set_option maxRecDepth 100000 in
theorem rfewest_any {w : World} {v : Value} {L : List Sp} (h : SpAt w v L) (hl : L.length ≤ 1000) :
    Calls Tryd.prog 24 #[v] w fun e w' => ∃ v', e = .returned v' ∧ OwnP 24 w' w.heap.size v' (fewS L) ∧ Below w.heap.size w w' := by
  obtain ⟨i0, hi, hz0, hz1, hz2⟩ := info_parts Tryd.info_sp
  obtain ⟨a, cap, rfl, hcap, _, hcells⟩ := h
  have HC := Hid.mk7 hcells
  have HI := Hid.mk7 hi
  clear hcells hi
  go_enter Tryd.func24, Tryd.ntmps24
  go_wp2
  go_loopw [3, 4] (fun av iv wr => ∃ k : Nat, k ≤ L.length ∧ iv = .int .i64 (k : Nat) ∧ Hid (OwnP 24 wr w.heap.size av (fewS (L.take k))) ∧ Below w.heap.size w wr) (fun _ iv _ => L.length - (intOf iv).toNat)
  case atStart => exact ⟨0, Nat.zero_le _, rfl, OwnP.nil _ _ _, Below.refl _ _⟩
  case round =>
    obtain ⟨k, hk, rfl, HO, hb⟩ := hrel
    have hfl : (fewS (L.take k)).length ≤ 1000 := Nat.le_trans (fewS_len _) (by simp; omega)
    by_cases hlt : k < L.length
    · obtain ⟨⟨x, y, z⟩, hr⟩ : ∃ r, L[k]? = some r := ⟨L[k], List.getElem?_eq_getElem hlt⟩
      obtain ⟨g, off, rfl, q0, q1, q2⟩ := HC.out k _ hr
      have c0 := cell_later7 hb (Nat.le_refl _) q0
      have c1 := cell_later7 hb (Nat.le_refl _) q1
      have c2 := cell_later7 hb (Nat.le_refl _) q2
      simp only at c0 c1 c2
      have HT := Hid.mk7 (fewS_take hr)
      have hsz := hb.size
      clear q0 q1 q2 hr
      have HB1 := Hid.mk7 hb
      have HO1 := HO
      clear HO
      generalize fewS (L.take k) = M at *
      obtain ⟨ma, mcap, rfl, hmcap, hmg⟩ := own_shapeP HO1.out
      by_cases h1 : y ≤ x
      · have d1 : decide (y ≤ x) = true := decide_eq_true h1
        have HTZ : Hid (fewS (L.take (k + 1)) = M) := by show _ = _; rw [HT.out, pushS_skip (Or.inl h1)]
        clear HT
        go_wp2
        go_quiet (fail)
        have HO2 : Hid (OwnP 24 (wr.drewN nq) w.heap.size (.slice ma M.length mcap) (fewS (L.take (k + 1)))) := by
          show OwnP _ _ _ _ _
          rw [HTZ.out]
          exact HO1.out
        have HB2 : Hid (Below w.heap.size w (wr.drewN nq)) := drewN15 HB1.out nq
        clear HO1 HTZ
        go_wp2
        go_roundw
        case rel => exact ⟨k + 1, by omega, by go_num, HO2, HB2.out⟩
        case measure => simp [intOf]; omega
      · have d1 : decide (y ≤ x) = false := decide_eq_false h1
        by_cases h2 : z = 0
        · have HTZ : Hid (fewS (L.take (k + 1)) = M) := by show _ = _; rw [HT.out, pushS_skip (Or.inr h2)]
          have d2 : (z == 0) = true := by simpa using h2
          clear h2 HT
          go_wp2
          go_quiet (fail)
          have HO2 : Hid (OwnP 24 (wr.drewN nq) w.heap.size (.slice ma M.length mcap) (fewS (L.take (k + 1)))) := by
            show OwnP _ _ _ _ _
            rw [HTZ.out]
            exact HO1.out
          have HB2 : Hid (Below w.heap.size w (wr.drewN nq)) := drewN15 HB1.out nq
          clear HO1 HTZ
          go_wp2
          go_roundw
          case rel => exact ⟨k + 1, by omega, by go_num, HO2, HB2.out⟩
          case measure => simp [intOf]; omega
        · have d2 : (z == 0) = false := by simpa using h2
          have h1' : x < y := by omega
          rcases List.eq_nil_or_concat M with rfl | ⟨A, ⟨f', t', s'⟩, rfl⟩
          · have HTN : Hid (fewS (L.take (k + 1)) = [(x, y, z)]) := by show _ = _; rw [HT.out, pushS_nil h1' h2]
            clear HT hmg
            simp only [List.length_nil] at HO1 ⊢
            go_wp2_with fail
            go_quiet (fail)
            have HO4 : Hid (OwnP 24 (wr.drewN nq) w.heap.size (.slice ma 0 mcap) []) := HO1.out
            have HB4 : Hid (Below w.heap.size w (wr.drewN nq)) := drewN15 HB1.out _
            have e0 : (wr.drewN nq).cell? ⟨g, off + k * 3, none⟩ = some (.int .i64 x) := c0
            have e1 : (wr.drewN nq).cell? ⟨g, off + k * 3 + 1, none⟩ = some (.int .i64 y) := c1
            have e2 : (wr.drewN nq).cell? ⟨g, off + k * 3 + 2, none⟩ = some (.int .i64 z) := c2
            clear HO1 HB1 c0 c1 c2
            generalize wr.drewN nq = w4 at *
            have hsz4 := HB4.out.size
            go_wp2_with fail
            go_quiet (fail)
            have HO5 : Hid (OwnP 24 (w4.drewN nq) w.heap.size (.slice ma 0 mcap) []) := HO4.out
            have HB5 : Hid (Below w.heap.size w (w4.drewN nq)) := drewN15 HB4.out _
            have f0 : (w4.drewN nq).cell? ⟨g, off + k * 3, none⟩ = some (.int .i64 x) := e0
            have f1 : (w4.drewN nq).cell? ⟨g, off + k * 3 + 1, none⟩ = some (.int .i64 y) := e1
            have f2 : (w4.drewN nq).cell? ⟨g, off + k * 3 + 2, none⟩ = some (.int .i64 z) := e2
            clear HO4 HB4 e0 e1 e2
            generalize w4.drewN nq = w5 at *
            have hsz5 := HB5.out.size
            go_wp2_with (at_builtin; refine wpList_append_own _ rfl _ _ 22 rfl w.heap.size 24 i0 (.agg #[.int .i64 0, .int .i64 0, .int .i64 0]) 3 24 Tryd.underlying22 HI.out hz0 hz1 hz2 rfl (by decide) _ _ _ rfl (World.ownsRow.alloc HO5.out _) ⟨_, 0, none⟩ 1 1 [.int .i64 x, .int .i64 y, .int .i64 z] rfl rfl (three15 rfl _ _ _ _) (fun u hu => by simp at hu; rcases hu with rfl | rfl | rfl <;> rfl) (by unfold maxLen; omega) (by omega) (by simp; omega) ?_)
            intro v' w6 hown' hgrow _
            have HO6 : Hid (OwnP 24 w6 w.heap.size v' (fewS (L.take (k + 1)))) := by
              show OwnP _ _ _ _ _
              rw [HTN.out]
              unfold OwnP
              rw [t3_one]
              exact hown'
            have HB6 : Hid (Below w.heap.size w w6) := (below15 HB5.out _).grown hgrow (by simp; omega) (fun j hj => by exact (World.ownsRow.lt (HO5.out) j hj).1)
            clear HO5 HB5 hown' hgrow
            go_wp2
            go_roundw
            case rel => exact ⟨k + 1, by omega, by go_num, HO6, HB6.out⟩
            case measure => simp [intOf]; omega
          · rw [List.concat_eq_append] at *
            have hlen : (A ++ [(f', t', s')]).length = A.length + 1 := by simp
            rw [hlen] at hfl hmcap
            obtain ⟨g2, rfl⟩ := hmg (by simp)
            have hO : wr.ownsRow w.heap.size 24 3 (.slice (some ⟨g2, 0, none⟩) (A.length + 1) mcap) (A.length + 1) (t3 (A ++ [(f', t', s')])) := by
              have := HO1.out
              unfold OwnP at this
              rw [hlen] at this
              exact this
            rw [hlen]
            have hget : (A ++ [(f', t', s')])[A.length]? = some (f', t', s') := by simp
            have m0 : wr.cell? ⟨g2, A.length * 3, none⟩ = some (.int .i64 f') := by rw [hO.cellAt _ (by omega)]; exact (t3_get hget).1
            have m1 : wr.cell? ⟨g2, A.length * 3 + 1, none⟩ = some (.int .i64 t') := by rw [hO.cellAt _ (by omega)]; exact (t3_get hget).2.1
            have m2 : wr.cell? ⟨g2, A.length * 3 + 2, none⟩ = some (.int .i64 s') := by rw [hO.cellAt _ (by omega)]; exact (t3_get hget).2.2
            have fz := fun j => hO.frozenAt j
            have HO3 := Hid.mk7 hO
            have dk : decide (0 ≤ (A.length : Int)) = true := decide_eq_true (by omega)
            have dk1 : decide ((0 : Int) < (A.length : Int) + 1) = true := decide_eq_true (by omega)
            clear hO hget hlen hmg
            have HTJ : Hid (x = t' ∧ z = s' → fewS (L.take (k + 1)) = A ++ [(f', y, s')]) := fun e => by rw [HT.out, pushS_join h1' h2 e.1 e.2]
            have HTN : Hid (¬ (x = t' ∧ z = s') → fewS (L.take (k + 1)) = A ++ [(f', t', s')] ++ [(x, y, z)]) := fun e => by rw [HT.out, pushS_new h1' h2 e]
            clear HT h2
            go_wp2_with fail
            go_quiet (fail)
            have HO4 : Hid (World.ownsRow (wr.drewN nq) w.heap.size 24 3 (.slice (some ⟨g2, 0, none⟩) (A.length + 1) mcap) (A.length + 1) (t3 (A ++ [(f', t', s')]))) := HO3.out
            have HB4 : Hid (Below w.heap.size w (wr.drewN nq)) := drewN15 HB1.out _
            have e0 : (wr.drewN nq).cell? ⟨g, off + k * 3, none⟩ = some (.int .i64 x) := c0
            have e1 : (wr.drewN nq).cell? ⟨g, off + k * 3 + 1, none⟩ = some (.int .i64 y) := c1
            have e2 : (wr.drewN nq).cell? ⟨g, off + k * 3 + 2, none⟩ = some (.int .i64 z) := c2
            have n0 : (wr.drewN nq).cell? ⟨g2, A.length * 3, none⟩ = some (.int .i64 f') := m0
            have n1 : (wr.drewN nq).cell? ⟨g2, A.length * 3 + 1, none⟩ = some (.int .i64 t') := m1
            have n2 : (wr.drewN nq).cell? ⟨g2, A.length * 3 + 2, none⟩ = some (.int .i64 s') := m2
            clear HO3 HB1 c0 c1 c2 m0 m1 m2 fz
            generalize wr.drewN nq = w4 at *
            by_cases hj : x = t' ∧ z = s'
            · have HTE := Hid.mk7 (HTJ.out hj)
              obtain ⟨rfl, rfl⟩ := hj
              have s5 : (x == x) = true := by simp
              have s6 : (z == z) = true := by simp
              clear HTJ HTN
              go_wp2_with fail
              go_quiet (fail)
              have HO5 : Hid (World.ownsRow (w4.drewN nq) w.heap.size 24 3 (.slice (some ⟨g2, 0, none⟩) (A.length + 1) mcap) (A.length + 1) (t3 (A ++ [(f', x, z)]))) := HO4.out
              have HB5 : Hid (Below w.heap.size w (w4.drewN nq)) := drewN15 HB4.out _
              have f1 : (w4.drewN nq).cell? ⟨g, off + k * 3 + 1, none⟩ = some (.int .i64 y) := e1
              have p1 : (w4.drewN nq).cell? ⟨g2, A.length * 3 + 1, none⟩ = some (.int .i64 x) := n1
              clear HO4 HB4 e0 e1 e2 n0 n1 n2
              generalize w4.drewN nq = w5 at *
              have fz := fun j => HO5.out.frozenAt j
              go_wp2
              obtain ⟨h3, h4⟩ := HO5.out.stored (A.length * 3 + 1) (.int .i64 y)
              have e : (t3 (A ++ [(f', x, z)])).set (A.length * 3 + 1) (.int .i64 y) = t3 (A ++ [(f', y, z)]) := by
                rw [t3_append, t3_append, List.set_append_right _ _ (by rw [t3_length]; omega), t3_length, t3_one, t3_one, Nat.add_sub_cancel_left]
                rfl
              rw [e] at h3
              have HO6 : Hid (OwnP 24 (w5.setCell ⟨g2, A.length * 3 + 1, none⟩ (.int .i64 y)) w.heap.size (.slice (some ⟨g2, 0, none⟩) (A.length + 1) mcap) (fewS (L.take (k + 1)))) := by
                show OwnP _ _ _ _ _
                rw [HTE.out]
                unfold OwnP
                rw [List.length_append]
                exact h3
              have HB6 : Hid (Below w.heap.size w (w5.setCell ⟨g2, A.length * 3 + 1, none⟩ (.int .i64 y))) := HB5.out.setCell (p := ⟨g2, A.length * 3 + 1, none⟩) (World.ownsRow.lt HO5.out g2 rfl).1 _
              clear h3 h4 e HO5 HB5
              go_roundw
              case rel => exact ⟨k + 1, by omega, by go_num, HO6, HB6.out⟩
              case measure => simp [intOf]; omega
            · have HTE := Hid.mk7 (HTN.out hj)
              clear HTJ HTN
              obtain ⟨b, hb0⟩ : ∃ b, (t' == x) = b := ⟨_, rfl⟩
              have hbb : b = true → (s' == z) = false := fun h => by
                subst h
                have h3 : t' = x := by simpa using hb0
                by_cases h4 : s' = z
                · exact absurd ⟨h3.symm, h4.symm⟩ hj
                · simpa using h4
              clear hj
              cases b with
              | true =>
                have s6 := hbb rfl
                clear hbb
                go_wp2_with fail
                go_quiet (fail)
                have HO5 : Hid (World.ownsRow (w4.drewN nq) w.heap.size 24 3 (.slice (some ⟨g2, 0, none⟩) (A.length + 1) mcap) (A.length + 1) (t3 (A ++ [(f', t', s')]))) := HO4.out
                have HB5 : Hid (Below w.heap.size w (w4.drewN nq)) := drewN15 HB4.out _
                have f0 : (w4.drewN nq).cell? ⟨g, off + k * 3, none⟩ = some (.int .i64 x) := e0
                have f1 : (w4.drewN nq).cell? ⟨g, off + k * 3 + 1, none⟩ = some (.int .i64 y) := e1
                have f2 : (w4.drewN nq).cell? ⟨g, off + k * 3 + 2, none⟩ = some (.int .i64 z) := e2
                clear HO4 HB4 e0 e1 e2 n0 n1 n2
                generalize w4.drewN nq = w5 at *
                have hsz5 := HB5.out.size
                go_wp2_with (at_builtin; refine wpList_append_own _ rfl _ _ 22 rfl w.heap.size 24 i0 (.agg #[.int .i64 0, .int .i64 0, .int .i64 0]) 3 24 Tryd.underlying22 HI.out hz0 hz1 hz2 rfl (by decide) _ _ _ rfl (World.ownsRow.alloc HO5.out _) ⟨_, 0, none⟩ 1 1 [.int .i64 x, .int .i64 y, .int .i64 z] rfl rfl (three15 rfl _ _ _ _) (fun u hu => by simp at hu; rcases hu with rfl | rfl | rfl <;> rfl) (by unfold maxLen; omega) (by omega) (by simp; omega) ?_)
                intro v' w6 hown' hgrow _
                have HO6 : Hid (OwnP 24 w6 w.heap.size v' (fewS (L.take (k + 1)))) := by
                  show OwnP _ _ _ _ _
                  rw [HTE.out]
                  unfold OwnP
                  rw [List.length_append, t3_append, t3_one, List.length_append]
                  exact hown'
                have HB6 : Hid (Below w.heap.size w w6) := (below15 HB5.out _).grown hgrow (by simp; omega) (fun j hj => by exact (World.ownsRow.lt (HO5.out) j hj).1)
                clear HO5 HB5 hown' hgrow
                go_wp2
                go_roundw
                case rel => exact ⟨k + 1, by omega, by go_num, HO6, HB6.out⟩
                case measure => simp [intOf]; omega
              | false =>
                clear hbb
                go_wp2_with fail
                go_quiet (fail)
                have HO5 : Hid (World.ownsRow (w4.drewN nq) w.heap.size 24 3 (.slice (some ⟨g2, 0, none⟩) (A.length + 1) mcap) (A.length + 1) (t3 (A ++ [(f', t', s')]))) := HO4.out
                have HB5 : Hid (Below w.heap.size w (w4.drewN nq)) := drewN15 HB4.out _
                have f0 : (w4.drewN nq).cell? ⟨g, off + k * 3, none⟩ = some (.int .i64 x) := e0
                have f1 : (w4.drewN nq).cell? ⟨g, off + k * 3 + 1, none⟩ = some (.int .i64 y) := e1
                have f2 : (w4.drewN nq).cell? ⟨g, off + k * 3 + 2, none⟩ = some (.int .i64 z) := e2
                clear HO4 HB4 e0 e1 e2 n0 n1 n2
                generalize w4.drewN nq = w5 at *
                have hsz5 := HB5.out.size
                go_wp2_with (at_builtin; refine wpList_append_own _ rfl _ _ 22 rfl w.heap.size 24 i0 (.agg #[.int .i64 0, .int .i64 0, .int .i64 0]) 3 24 Tryd.underlying22 HI.out hz0 hz1 hz2 rfl (by decide) _ _ _ rfl (World.ownsRow.alloc HO5.out _) ⟨_, 0, none⟩ 1 1 [.int .i64 x, .int .i64 y, .int .i64 z] rfl rfl (three15 rfl _ _ _ _) (fun u hu => by simp at hu; rcases hu with rfl | rfl | rfl <;> rfl) (by unfold maxLen; omega) (by omega) (by simp; omega) ?_)
                intro v' w6 hown' hgrow _
                have HO6 : Hid (OwnP 24 w6 w.heap.size v' (fewS (L.take (k + 1)))) := by
                  show OwnP _ _ _ _ _
                  rw [HTE.out]
                  unfold OwnP
                  rw [List.length_append, t3_append, t3_one, List.length_append]
                  exact hown'
                have HB6 : Hid (Below w.heap.size w w6) := (below15 HB5.out _).grown hgrow (by simp; omega) (fun j hj => by exact (World.ownsRow.lt (HO5.out) j hj).1)
                clear HO5 HB5 hown' hgrow
                go_wp2
                go_roundw
                case rel => exact ⟨k + 1, by omega, by go_num, HO6, HB6.out⟩
                case measure => simp [intOf]; omega
    · obtain rfl : k = L.length := by omega
      have HE : Hid (L.take L.length = L) := List.take_length
      go_wp2
      go_ret
      exact ⟨_, rfl, by have := HO.out; rw [HE.out] at this; exact this, hb⟩
end Go.Proofs.YtmgjfmgkmlfjeaaDoor
