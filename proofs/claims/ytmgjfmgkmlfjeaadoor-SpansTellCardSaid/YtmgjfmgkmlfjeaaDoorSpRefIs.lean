/- The reference's Is, At. -/
import Derived.Test.YtmgjfmgkmlfjeaaDoorSpPutG
import Derived.Test.YtmgjfmgkmlfjeaaDoorSpFew
namespace Go.Proofs.YtmgjfmgkmlfjeaaDoor
open Go.RowKit Go.Sort
set_option linter.unusedSimpArgs false
set_option linter.unusedVariables false

theorem isS_okB {n : Int} {L : List Sp} (h : L.length ≤ 60) : isS n L = okB (min n 20000) 0 0 L := by unfold isS; rw [decide_eq_true h, Bool.true_and]
theorem ok_step {m a st f t s : Int} {l : List Sp} (h : 1 ≤ s ∧ s ≤ 100 ∧ a ≤ f ∧ f < t ∧ t ≤ m ∧ ¬ (f = a ∧ s = st)) : okB m a st ((f, t, s) :: l) = okB m t s l := by
  rw [okB, decide_eq_true h, Bool.true_and]
theorem ok_stop {m a st f t s : Int} {l : List Sp} (h : ¬ (1 ≤ s ∧ s ≤ 100 ∧ a ≤ f ∧ f < t ∧ t ≤ m ∧ ¬ (f = a ∧ s = st))) : okB m a st ((f, t, s) :: l) = false := by
  rw [okB, decide_eq_false h, Bool.false_and]
set_option maxHeartbeats 4000000 in
set_option maxRecDepth 100000 in
theorem ris15_any {w : World} {v : Value} {L : List Sp} (n : Int) (h : SpAt w v L) :
    Calls Tryd.prog 12 #[v, .int .i64 n] w fun e w' => e = .returned (.bool (isS n L)) ∧ Below w.heap.size w w' := by
  by_cases hl : L.length ≤ 60
  case neg =>
    have d0 : decide ((60 : Int) < (L.length : Nat)) = true := decide_eq_true (by omega)
    have d0' : decide (60 < L.length) = true := decide_eq_true (by omega)
    obtain ⟨a, cap, rfl⟩ := h.shape
    rw [isS_long hl]
    go_enter Tryd.func12, Tryd.ntmps12
    go_wp2
    go_ret
    exact ⟨rfl, Below.refl _ _⟩
  have d0 : decide ((60 : Int) < (L.length : Nat)) = false := decide_eq_false (by omega)
  have d0' : decide (60 < L.length) = false := decide_eq_false (by omega)
  obtain ⟨a, cap, rfl, hcap, _, hcells⟩ := h
  have HC := Hid.mk7 hcells
  clear hcells
  rw [isS_okB hl]
  by_cases hn : n ≤ 20000
  · have dn : decide (n ≤ 20000) = true := decide_eq_true hn
    have dn' : decide ((20000 : Int) < n) = false := decide_eq_false (by omega)
    rw [show min n 20000 = n from Int.min_eq_left hn]
    generalize hres : okB n 0 0 L = res
    have HR0 := Hid.mk7 hres
    clear hres
    go_enter Tryd.func12, Tryd.ntmps12
    go_wp2
    go_loopw [5, 6, 7] (fun lv sv iv wr => ∃ (k : Nat) (a0 st0 : Int), k ≤ L.length ∧ lv = .int .i64 a0 ∧ sv = .int .i64 st0 ∧ iv = .int .i64 (k : Nat) ∧ (k = 0 → st0 = 0) ∧ Hid (okB n a0 st0 (L.drop k) = res) ∧ Below w.heap.size w wr) (fun _ _ iv _ => L.length - (intOf iv).toNat)
    case atStart => exact ⟨0, 0, 0, Nat.zero_le _, rfl, rfl, rfl, fun _ => rfl, HR0, Below.refl _ _⟩
    case round =>
      obtain ⟨k, a0, st0, hk, rfl, rfl, rfl, hk0, HV, hb⟩ := hrel
      by_cases hlt : k < L.length
      · obtain ⟨⟨x, y, z⟩, hr⟩ : ∃ r, L[k]? = some r := ⟨L[k], List.getElem?_eq_getElem hlt⟩
        obtain ⟨g, off, rfl, q0, q1, q2⟩ := HC.out k _ hr
        have c0 := cell_later7 hb (Nat.le_refl _) q0
        have c1 := cell_later7 hb (Nat.le_refl _) q1
        have c2 := cell_later7 hb (Nat.le_refl _) q2
        simp only at c0 c1 c2
        rw [drop15 hr] at HV
        clear q0 q1 q2 hr HR0
        have HB1 := Hid.mk7 (below15 hb (.cells #[.int .i64 x, .int .i64 y, .int .i64 z] 24))
        have HP1 := Hid.mk7 (Rt.new 24 wr (.int .i64 x) (.int .i64 y) (.int .i64 z))
        by_cases h0 : z < 1
        · have s0 : decide (z < 1) = true := decide_eq_true h0
          have HF : Hid (res = false) := by show _ = _; rw [← HV.out]; exact ok_stop (by omega)
          go_wp2
          go_ret
          exact ⟨ret_bool15 HF.out.symm, HB1.out⟩
        have s0 : decide (z < 1) = false := decide_eq_false h0
        by_cases h1 : 100 < z
        · have s1 : decide (100 < z) = true := decide_eq_true h1
          have HF : Hid (res = false) := by show _ = _; rw [← HV.out]; exact ok_stop (by omega)
          go_wp2
          go_ret
          exact ⟨ret_bool15 HF.out.symm, HB1.out⟩
        have s1 : decide (100 < z) = false := decide_eq_false h1
        by_cases h2 : x < a0
        · have s2 : decide (x < a0) = true := decide_eq_true h2
          have HF : Hid (res = false) := by show _ = _; rw [← HV.out]; exact ok_stop (by omega)
          go_wp2
          go_ret
          exact ⟨ret_bool15 HF.out.symm, HB1.out⟩
        have s2 : decide (x < a0) = false := decide_eq_false h2
        by_cases h3 : y ≤ x
        · have s3 : decide (y ≤ x) = true := decide_eq_true h3
          have HF : Hid (res = false) := by show _ = _; rw [← HV.out]; exact ok_stop (by omega)
          go_wp2
          go_ret
          exact ⟨ret_bool15 HF.out.symm, HB1.out⟩
        have s3 : decide (y ≤ x) = false := decide_eq_false h3
        by_cases h4 : n < y
        · have s4 : decide (n < y) = true := decide_eq_true h4
          have HF : Hid (res = false) := by show _ = _; rw [← HV.out]; exact ok_stop (by omega)
          go_wp2
          go_ret
          exact ⟨ret_bool15 HF.out.symm, HB1.out⟩
        have s4 : decide (n < y) = false := decide_eq_false h4
        have hne : ∀ (hk : k = 0), z ≠ st0 := fun hk => by have := hk0 hk; omega
        by_cases h5 : x = a0 ∧ z = st0
        · have hkp : 0 < k := by
            by_cases h : k = 0
            · exact absurd h5.2 (hne h)
            · omega
          have s5 : decide ((0 : Int) < (k : Int)) = true := decide_eq_true (by omega)
          obtain ⟨rfl, rfl⟩ := h5
          have s6 : (x == x) = true := by simp
          have s7 : (z == z) = true := by simp
          have HF : Hid (res = false) := by show _ = _; rw [← HV.out]; exact ok_stop (by omega)
          go_wp2
          go_ret
          exact ⟨ret_bool15 HF.out.symm, HB1.out⟩
        have HV2 : Hid (okB n y z (L.drop (k + 1)) = res) := by show _ = _; rw [← HV.out]; exact (ok_step (by omega)).symm
        clear HV
        by_cases hkp : 0 < k
        · have s5 : decide ((0 : Int) < (k : Int)) = true := decide_eq_true (by omega)
          by_cases h6 : x = a0
          · have s6 : (x == a0) = true := by simpa using h6
            have s7 : (z == st0) = false := by simp; exact fun h => h5 ⟨h6, h⟩
            clear h5 h6 hne
            go_wp2_with fail
            go_quiet (fail)
            have HB2 : Hid (Below w.heap.size w ((wr.alloc (.cells #[.int .i64 x, .int .i64 y, .int .i64 z] 24)).drewN nq)) := drewN15 HB1.out nq
            go_wp2
            go_roundw
            case rel => exact ⟨k + 1, y, z, by omega, rfl, rfl, by go_num, fun h => by omega, HV2, HB2.out⟩
            case measure => simp [intOf]; omega
          · have s6 : (x == a0) = false := by simpa using h6
            clear h5 h6 hne
            go_wp2_with fail
            go_quiet (fail)
            have HB2 : Hid (Below w.heap.size w ((wr.alloc (.cells #[.int .i64 x, .int .i64 y, .int .i64 z] 24)).drewN nq)) := drewN15 HB1.out nq
            go_wp2
            go_roundw
            case rel => exact ⟨k + 1, y, z, by omega, rfl, rfl, by go_num, fun h => by omega, HV2, HB2.out⟩
            case measure => simp [intOf]; omega
        · have s5 : decide ((0 : Int) < (k : Int)) = false := decide_eq_false (by omega)
          clear h5 hne
          go_wp2_with fail
          go_quiet (fail)
          have HB2 : Hid (Below w.heap.size w ((wr.alloc (.cells #[.int .i64 x, .int .i64 y, .int .i64 z] 24)).drewN nq)) := drewN15 HB1.out nq
          go_wp2
          go_roundw
          case rel => exact ⟨k + 1, y, z, by omega, rfl, rfl, by go_num, fun h => by omega, HV2, HB2.out⟩
          case measure => simp [intOf]; omega
      · obtain rfl : k = L.length := by omega
        have HE : Hid (res = true) := by show _ = _; have := HV.out; rw [List.drop_length] at this; rw [← this]; rfl
        go_wp2
        go_ret
        exact ⟨ret_bool15 HE.out.symm, hb⟩
  · have dn : decide (n ≤ 20000) = false := decide_eq_false hn
    have dn' : decide ((20000 : Int) < n) = true := decide_eq_true (by omega)
    rw [show min n 20000 = 20000 from Int.min_eq_right (by omega)]
    generalize hres : okB 20000 0 0 L = res
    have HR0 := Hid.mk7 hres
    clear hres
    go_enter Tryd.func12, Tryd.ntmps12
    go_wp2
    go_loopw [5, 6, 7] (fun lv sv iv wr => ∃ (k : Nat) (a0 st0 : Int), k ≤ L.length ∧ lv = .int .i64 a0 ∧ sv = .int .i64 st0 ∧ iv = .int .i64 (k : Nat) ∧ (k = 0 → st0 = 0) ∧ Hid (okB 20000 a0 st0 (L.drop k) = res) ∧ Below w.heap.size w wr) (fun _ _ iv _ => L.length - (intOf iv).toNat)
    case atStart => exact ⟨0, 0, 0, Nat.zero_le _, rfl, rfl, rfl, fun _ => rfl, HR0, Below.refl _ _⟩
    case round =>
      obtain ⟨k, a0, st0, hk, rfl, rfl, rfl, hk0, HV, hb⟩ := hrel
      by_cases hlt : k < L.length
      · obtain ⟨⟨x, y, z⟩, hr⟩ : ∃ r, L[k]? = some r := ⟨L[k], List.getElem?_eq_getElem hlt⟩
        obtain ⟨g, off, rfl, q0, q1, q2⟩ := HC.out k _ hr
        have c0 := cell_later7 hb (Nat.le_refl _) q0
        have c1 := cell_later7 hb (Nat.le_refl _) q1
        have c2 := cell_later7 hb (Nat.le_refl _) q2
        simp only at c0 c1 c2
        rw [drop15 hr] at HV
        clear q0 q1 q2 hr HR0
        have HB1 := Hid.mk7 (below15 hb (.cells #[.int .i64 x, .int .i64 y, .int .i64 z] 24))
        have HP1 := Hid.mk7 (Rt.new 24 wr (.int .i64 x) (.int .i64 y) (.int .i64 z))
        by_cases h0 : z < 1
        · have s0 : decide (z < 1) = true := decide_eq_true h0
          have HF : Hid (res = false) := by show _ = _; rw [← HV.out]; exact ok_stop (by omega)
          go_wp2
          go_ret
          exact ⟨ret_bool15 HF.out.symm, HB1.out⟩
        have s0 : decide (z < 1) = false := decide_eq_false h0
        by_cases h1 : 100 < z
        · have s1 : decide (100 < z) = true := decide_eq_true h1
          have HF : Hid (res = false) := by show _ = _; rw [← HV.out]; exact ok_stop (by omega)
          go_wp2
          go_ret
          exact ⟨ret_bool15 HF.out.symm, HB1.out⟩
        have s1 : decide (100 < z) = false := decide_eq_false h1
        by_cases h2 : x < a0
        · have s2 : decide (x < a0) = true := decide_eq_true h2
          have HF : Hid (res = false) := by show _ = _; rw [← HV.out]; exact ok_stop (by omega)
          go_wp2
          go_ret
          exact ⟨ret_bool15 HF.out.symm, HB1.out⟩
        have s2 : decide (x < a0) = false := decide_eq_false h2
        by_cases h3 : y ≤ x
        · have s3 : decide (y ≤ x) = true := decide_eq_true h3
          have HF : Hid (res = false) := by show _ = _; rw [← HV.out]; exact ok_stop (by omega)
          go_wp2
          go_ret
          exact ⟨ret_bool15 HF.out.symm, HB1.out⟩
        have s3 : decide (y ≤ x) = false := decide_eq_false h3
        by_cases h4 : 20000 < y
        · have s4 : decide (20000 < y) = true := decide_eq_true h4
          have HF : Hid (res = false) := by show _ = _; rw [← HV.out]; exact ok_stop (by omega)
          go_wp2
          go_ret
          exact ⟨ret_bool15 HF.out.symm, HB1.out⟩
        have s4 : decide (20000 < y) = false := decide_eq_false h4
        have hne : ∀ (hk : k = 0), z ≠ st0 := fun hk => by have := hk0 hk; omega
        by_cases h5 : x = a0 ∧ z = st0
        · have hkp : 0 < k := by
            by_cases h : k = 0
            · exact absurd h5.2 (hne h)
            · omega
          have s5 : decide ((0 : Int) < (k : Int)) = true := decide_eq_true (by omega)
          obtain ⟨rfl, rfl⟩ := h5
          have s6 : (x == x) = true := by simp
          have s7 : (z == z) = true := by simp
          have HF : Hid (res = false) := by show _ = _; rw [← HV.out]; exact ok_stop (by omega)
          go_wp2
          go_ret
          exact ⟨ret_bool15 HF.out.symm, HB1.out⟩
        have HV2 : Hid (okB 20000 y z (L.drop (k + 1)) = res) := by show _ = _; rw [← HV.out]; exact (ok_step (by omega)).symm
        clear HV
        by_cases hkp : 0 < k
        · have s5 : decide ((0 : Int) < (k : Int)) = true := decide_eq_true (by omega)
          by_cases h6 : x = a0
          · have s6 : (x == a0) = true := by simpa using h6
            have s7 : (z == st0) = false := by simp; exact fun h => h5 ⟨h6, h⟩
            clear h5 h6 hne
            go_wp2_with fail
            go_quiet (fail)
            have HB2 : Hid (Below w.heap.size w ((wr.alloc (.cells #[.int .i64 x, .int .i64 y, .int .i64 z] 24)).drewN nq)) := drewN15 HB1.out nq
            go_wp2
            go_roundw
            case rel => exact ⟨k + 1, y, z, by omega, rfl, rfl, by go_num, fun h => by omega, HV2, HB2.out⟩
            case measure => simp [intOf]; omega
          · have s6 : (x == a0) = false := by simpa using h6
            clear h5 h6 hne
            go_wp2_with fail
            go_quiet (fail)
            have HB2 : Hid (Below w.heap.size w ((wr.alloc (.cells #[.int .i64 x, .int .i64 y, .int .i64 z] 24)).drewN nq)) := drewN15 HB1.out nq
            go_wp2
            go_roundw
            case rel => exact ⟨k + 1, y, z, by omega, rfl, rfl, by go_num, fun h => by omega, HV2, HB2.out⟩
            case measure => simp [intOf]; omega
        · have s5 : decide ((0 : Int) < (k : Int)) = false := decide_eq_false (by omega)
          clear h5 hne
          go_wp2_with fail
          go_quiet (fail)
          have HB2 : Hid (Below w.heap.size w ((wr.alloc (.cells #[.int .i64 x, .int .i64 y, .int .i64 z] 24)).drewN nq)) := drewN15 HB1.out nq
          go_wp2
          go_roundw
          case rel => exact ⟨k + 1, y, z, by omega, rfl, rfl, by go_num, fun h => by omega, HV2, HB2.out⟩
          case measure => simp [intOf]; omega
      · obtain rfl : k = L.length := by omega
        have HE : Hid (res = true) := by show _ = _; have := HV.out; rw [List.drop_length] at this; rw [← this]; rfl
        go_wp2
        go_ret
        exact ⟨ret_bool15 HE.out.symm, hb⟩
set_option maxHeartbeats 4000000 in
set_option maxRecDepth 100000 in
theorem rat15_any {w : World} {v : Value} {L : List Sp} (p : Int) (h : SpAt w v L) (hl : L.length ≤ 1000) :
    Calls Tryd.prog 15 #[v, .int .i64 p] w fun e w' => e = .returned (.int .i64 (atS L p)) ∧ Below w.heap.size w w' := by
  obtain ⟨a, cap, rfl, hcap, _, hcells⟩ := h
  have HC := Hid.mk7 hcells
  clear hcells
  generalize hres : atS L p = res
  have HR0 := Hid.mk7 hres
  clear hres
  go_enter Tryd.func15, Tryd.ntmps15
  go_wp2
  go_loopw [5] (fun iv wr => ∃ k : Nat, k ≤ L.length ∧ iv = .int .i64 (k : Nat) ∧ Hid (atS (L.drop k) p = res) ∧ Below w.heap.size w wr) (fun iv _ => L.length - (intOf iv).toNat)
  case atStart => exact ⟨0, Nat.zero_le _, rfl, HR0, Below.refl _ _⟩
  case round =>
    obtain ⟨k, hk, rfl, HV, hb⟩ := hrel
    by_cases hlt : k < L.length
    · obtain ⟨⟨x, y, z⟩, hr⟩ : ∃ r, L[k]? = some r := ⟨L[k], List.getElem?_eq_getElem hlt⟩
      obtain ⟨g, off, rfl, q0, q1, q2⟩ := HC.out k _ hr
      have c0 := cell_later7 hb (Nat.le_refl _) q0
      have c1 := cell_later7 hb (Nat.le_refl _) q1
      have c2 := cell_later7 hb (Nat.le_refl _) q2
      simp only at c0 c1 c2
      rw [drop15 hr] at HV
      have HB1 := Hid.mk7 hb
      clear q0 q1 q2 hr HR0
      by_cases h1 : x ≤ p
      · have d1 : decide (x ≤ p) = true := decide_eq_true h1
        by_cases h2 : p < y
        · have d2 : decide (p < y) = true := decide_eq_true h2
          have HF : Hid (res = z) := by show _ = _; rw [← HV.out]; simp only [atS]; rw [if_pos ⟨h1, h2⟩]
          go_wp2
          go_ret
          exact ⟨ret_int15 HF.out.symm, HB1.out⟩
        · have d2 : decide (p < y) = false := decide_eq_false h2
          have HV2 : Hid (atS (L.drop (k + 1)) p = res) := by show _ = _; rw [← HV.out, atS_skip (by omega)]
          go_wp2
          go_roundw
          case rel => exact ⟨k + 1, by omega, by go_num, HV2, HB1.out⟩
          case measure => simp [intOf]; omega
      · have d1 : decide (x ≤ p) = false := decide_eq_false h1
        have HV2 : Hid (atS (L.drop (k + 1)) p = res) := by show _ = _; rw [← HV.out, atS_skip (by omega)]
        go_wp2
        go_roundw
        case rel => exact ⟨k + 1, by omega, by go_num, HV2, HB1.out⟩
        case measure => simp [intOf]; omega
    · obtain rfl : k = L.length := by omega
      have HE : Hid (res = 0) := by show _ = _; have := HV.out; rw [List.drop_length] at this; rw [← this]; rfl
      go_wp2
      go_ret
      exact ⟨ret_int15 HE.out.symm, hb⟩
end Go.Proofs.YtmgjfmgkmlfjeaaDoor
