/- isLeast, at. -/
import Derived.Test.YtmgjfmgkmlfjeaaDoorSpRow
namespace Go.Proofs.YtmgjfmgkmlfjeaaDoor
open Go.RowKit Go.Sort
set_option linter.unusedSimpArgs false
set_option linter.unusedVariables false

theorem drop15 {L : List Sp} {k : Nat} {r : Sp} (h : L[k]? = some r) : L.drop k = r :: L.drop (k + 1) := by
  obtain ⟨hk, rfl⟩ := List.getElem?_eq_some_iff.1 h
  exact List.drop_eq_getElem_cons hk
theorem set15 {B g : Nat} {a w : World} (h : Below B a w) (hg : B ≤ g) (y0 y1 y2 : Value) :
    Below B a (((w.setCell ⟨g, 0, none⟩ y0).setCell ⟨g, 1, none⟩ y1).setCell ⟨g, 2, none⟩ y2) := ((h.setCell (p := ⟨g, 0, none⟩) hg _).setCell (p := ⟨g, 1, none⟩) hg _).setCell (p := ⟨g, 2, none⟩) hg _
theorem lst_step {m a st f t s : Int} {l : List Sp} (h : a ≤ f ∧ f < t ∧ t ≤ m ∧ s ≠ 0 ∧ ¬ (f = a ∧ s = st)) : lstB m a st ((f, t, s) :: l) = lstB m t s l := by
  rw [lstB, decide_eq_true h, Bool.true_and]
theorem lst_stop {m a st f t s : Int} {l : List Sp} (h : ¬ (a ≤ f ∧ f < t ∧ t ≤ m ∧ s ≠ 0 ∧ ¬ (f = a ∧ s = st))) : lstB m a st ((f, t, s) :: l) = false := by
  rw [lstB, decide_eq_false h, Bool.false_and]
set_option maxHeartbeats 2000000 in
set_option maxRecDepth 100000 in
theorem least_any {w : World} {v : Value} {L : List Sp} (m : Int) (h : SpAt w v L) (hl : L.length ≤ 1000) :
    Calls Tryd.prog 32 #[v, .int .i64 m] w fun e w' => e = .returned (.bool (lstB m 0 0 L)) ∧ Below w.heap.size w w' := by
  obtain ⟨a, cap, rfl, hcap, _, hcells⟩ := h
  have HC := Hid.mk7 hcells
  clear hcells
  generalize hres : lstB m 0 0 L = res
  have HR0 := Hid.mk7 hres
  clear hres
  have B0 := Hid.mk7 (below15 (Below.refl w.heap.size w) (.cells #[.int .i64 0, .int .i64 0, .int .i64 0] 57))
  have A0 := Hid.mk7 (Rt.new 57 w (.int .i64 0) (.int .i64 0) (.int .i64 0))
  go_enter Tryd.func32, Tryd.ntmps32
  go_wp2
  go_loopw [10] (fun iv wr => ∃ k : Nat, k ≤ L.length ∧ iv = .int .i64 (k : Nat) ∧ (∃ f0 t0 s0 : Int, Hid (Rt 57 wr w.heap.size (.int .i64 f0) (.int .i64 t0) (.int .i64 s0)) ∧ Hid (lstB m t0 s0 (L.drop k) = res)) ∧ Below w.heap.size w wr) (fun iv _ => L.length - (intOf iv).toNat)
  case atStart => exact ⟨0, Nat.zero_le _, rfl, ⟨0, 0, 0, A0, HR0⟩, B0.out⟩
  case round =>
    obtain ⟨k, hk, rfl, ⟨f0, t0, s0, HA, HV⟩, hb⟩ := hrel
    by_cases hlt : k < L.length
    · obtain ⟨⟨x, y, z⟩, hr⟩ : ∃ r, L[k]? = some r := ⟨L[k], List.getElem?_eq_getElem hlt⟩
      obtain ⟨g, off, rfl, q0, q1, q2⟩ := HC.out k _ hr
      have c0 := cell_later7 hb (Nat.le_refl _) q0
      have c1 := cell_later7 hb (Nat.le_refl _) q1
      have c2 := cell_later7 hb (Nat.le_refl _) q2
      simp only at c0 c1 c2
      rw [drop15 hr] at HV
      have hsz := hb.size
      clear q0 q1 q2 hr A0 HR0 B0
      have HB1 := Hid.mk7 (below15 hb (.cells #[.int .i64 x, .int .i64 y, .int .i64 z] 57))
      have HA1 := Hid.mk7 (HA.out.alloc (.cells #[.int .i64 x, .int .i64 y, .int .i64 z] 57))
      have HP1 := Hid.mk7 (Rt.new 57 wr (.int .i64 x) (.int .i64 y) (.int .i64 z))
      have HN := Hid.mk7 (nothing_any x y z (wr.alloc (.cells #[.int .i64 x, .int .i64 y, .int .i64 z] 57)))
      clear HA
      have a0 := HA1.out.c0
      have a1 := HA1.out.c1
      have a2 := HA1.out.c2
      by_cases h1 : x < t0
      · have d1 : decide (x < t0) = true := decide_eq_true h1
        have HF : Hid (res = false) := by show _ = _; rw [← HV.out]; exact lst_stop (by omega)
        go_wp2
        go_ret
        exact ⟨ret_bool15 HF.out.symm, HB1.out⟩
      · have d1 : decide (x < t0) = false := decide_eq_false h1
        by_cases h2 : y ≤ x
        · have d2 : decide (y ≤ x) = true := decide_eq_true h2
          have HF : Hid (res = false) := by show _ = _; rw [← HV.out]; exact lst_stop (by omega)
          go_wp2
          go_ret
          exact ⟨ret_bool15 HF.out.symm, HB1.out⟩
        · have d2 : decide (y ≤ x) = false := decide_eq_false h2
          by_cases h3 : m < y
          · have d3 : decide (m < y) = true := decide_eq_true h3
            have HF : Hid (res = false) := by show _ = _; rw [← HV.out]; exact lst_stop (by omega)
            go_wp2
            go_ret
            exact ⟨ret_bool15 HF.out.symm, HB1.out⟩
          · have d3 : decide (m < y) = false := decide_eq_false h3
            by_cases h4 : z = 0
            · have HF : Hid (res = false) := by show _ = _; rw [← HV.out]; exact lst_stop (by omega)
              rw [show (z == 0) = true by simpa using h4] at HN
              clear h4
              go_wp2_with fail
              refine HN.out.mono ?_
              rintro e w3 ⟨rfl, b3⟩
              go_wp2
              go_ret
              exact ⟨ret_bool15 HF.out.symm, HB1.out.trans (b3.mono HB1.out.size)⟩
            · rw [show (z == 0) = false by simpa using h4] at HN
              go_wp2_with fail
              refine HN.out.mono ?_
              rintro e w3 ⟨rfl, b3⟩
              have HA3 := Hid.mk7 (HA1.out.later b3)
              have HP3 := Hid.mk7 (HP1.out.later b3)
              have HB3 := Hid.mk7 (HB1.out.trans (b3.mono HB1.out.size))
              have HFO := Hid.mk7 (follows_any x y z f0 t0 s0 w3)
              clear a0 a1 a2 HA1 HP1 HB1 b3 HN c0 c1 c2
              have a0 := HA3.out.c0
              have a1 := HA3.out.c1
              have a2 := HA3.out.c2
              have p0 := HP3.out.c0
              have p1 := HP3.out.c1
              have p2 := HP3.out.c2
              by_cases h5 : x = t0 ∧ z = s0
              · have HF : Hid (res = false) := by show _ = _; rw [← HV.out]; exact lst_stop (by omega)
                rw [decide_eq_true h5] at HFO
                clear h5
                go_wp2_with fail
                refine HFO.out.mono ?_
                rintro e w4 ⟨rfl, b4⟩
                go_wp2
                go_ret
                exact ⟨ret_bool15 HF.out.symm, HB3.out.trans (b4.mono HB3.out.size)⟩
              · have HV2 : Hid (lstB m y z (L.drop (k + 1)) = res) := by show _ = _; rw [← HV.out]; exact (lst_step (by omega)).symm
                rw [decide_eq_false h5] at HFO
                clear h5
                go_wp2_with fail
                refine HFO.out.mono ?_
                rintro e w4 ⟨rfl, b4⟩
                have HA4 := Hid.mk7 (HA3.out.later b4)
                have HP4 := Hid.mk7 (HP3.out.later b4)
                have HB4 := Hid.mk7 (HB3.out.trans (b4.mono HB3.out.size))
                clear a0 a1 a2 p0 p1 p2 HA3 HP3 HB3 b4 HFO
                have a0 := HA4.out.c0
                have a1 := HA4.out.c1
                have a2 := HA4.out.c2
                have p0 := HP4.out.c0
                have p1 := HP4.out.c1
                have p2 := HP4.out.c2
                have fz := HA4.out.fz
                go_wp2
                go_roundw
                case rel => exact ⟨k + 1, by omega, by go_num, ⟨x, y, z, HA4.out.set _ _ _, HV2⟩, set15 HB4.out (Nat.le_refl _) _ _ _⟩
                case measure => simp [intOf]; omega
    · obtain rfl : k = L.length := by omega
      have HE : Hid (res = true) := by show _ = _; have := HV.out; rw [List.drop_length] at this; rw [← this]; rfl
      go_wp2
      go_ret
      exact ⟨ret_bool15 HE.out.symm, hb⟩
set_option maxHeartbeats 2000000 in
set_option maxRecDepth 100000 in
theorem rat_any {w : World} {v : Value} {L : List Sp} (p : Int) (h : SpAt w v L) (hl : L.length ≤ 1000) :
    Calls Tryd.prog 33 #[v, .int .i64 p] w fun e w' => e = .returned (.int .i64 (atS L p)) ∧ Below w.heap.size w w' := by
  obtain ⟨a, cap, rfl, hcap, _, hcells⟩ := h
  have HC := Hid.mk7 hcells
  clear hcells
  generalize hres : atS L p = res
  have HR0 := Hid.mk7 hres
  clear hres
  go_enter Tryd.func33, Tryd.ntmps33
  go_wp2
  go_loopw [10] (fun iv wr => ∃ k : Nat, k ≤ L.length ∧ iv = .int .i64 (k : Nat) ∧ Hid (atS (L.drop k) p = res) ∧ Below w.heap.size w wr) (fun iv _ => L.length - (intOf iv).toNat)
  case atStart => exact ⟨0, Nat.zero_le _, rfl, HR0, Below.refl _ _⟩
  case round =>
    obtain ⟨k, hk, rfl, HV, hb⟩ := hrel
    by_cases hlt : k < L.length
    · obtain ⟨⟨x, y, z⟩, hr⟩ : ∃ r, L[k]? = some r := ⟨L[k], List.getElem?_eq_getElem hlt⟩
      obtain ⟨g, off, rfl, q0, q1, q2⟩ := HC.out k _ hr
      have c0 := cell_later7 hb (Nat.le_refl _) q0
      have c1 := cell_later7 hb (Nat.le_refl _) q1
      have c2 := cell_later7 hb (Nat.le_refl _) q2
      simp only at c0 c1 c2
      rw [drop15 hr] at HV
      have HB1 := Hid.mk7 (below15 hb (.cells #[.int .i64 x, .int .i64 y, .int .i64 z] 57))
      clear q0 q1 q2 hr HR0
      by_cases h1 : x ≤ p
      · have d1 : decide (x ≤ p) = true := decide_eq_true h1
        by_cases h2 : p < y
        · have d2 : decide (p < y) = true := decide_eq_true h2
          have HF : Hid (res = z) := by show _ = _; rw [← HV.out]; simp only [atS]; rw [if_pos ⟨h1, h2⟩]
          go_wp2
          go_ret
          exact ⟨ret_int15 HF.out.symm, HB1.out⟩
        · have d2 : decide (p < y) = false := decide_eq_false h2
          have HV2 : Hid (atS (L.drop (k + 1)) p = res) := by show _ = _; rw [← HV.out, atS_skip (by omega)]
          go_wp2
          go_roundw
          case rel => exact ⟨k + 1, by omega, by go_num, HV2, HB1.out⟩
          case measure => simp [intOf]; omega
      · have d1 : decide (x ≤ p) = false := decide_eq_false h1
        have HV2 : Hid (atS (L.drop (k + 1)) p = res) := by show _ = _; rw [← HV.out, atS_skip (by omega)]
        go_wp2
        go_roundw
        case rel => exact ⟨k + 1, by omega, by go_num, HV2, HB1.out⟩
        case measure => simp [intOf]; omega
    · obtain rfl : k = L.length := by omega
      have HE : Hid (res = 0) := by show _ = _; have := HV.out; rw [List.drop_length] at this; rw [← this]; rfl
      go_wp2
      go_ret
      exact ⟨ret_int15 HE.out.symm, hb⟩
end Go.Proofs.YtmgjfmgkmlfjeaaDoor
