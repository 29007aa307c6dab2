/- breaks.Is, Line; the reference's IsBreaks; the law's same. -/
import Derived.Test.YtafhogfbjklboaaDoorBrkMem
import Derived.Test.YtafhogfbjklboaaDoorTurns
namespace Go.Proofs.YtafhogfbjklboaaDoor
open Go.RowKit Go.Sort
set_option linter.unusedSimpArgs false
set_option linter.unusedVariables false

theorem drewN16 {a w : World} (h : Below a.heap.size a w) : ∀ q, Below a.heap.size a (w.drewN q)
  | 0 => h
  | q + 1 => (drewN16 h q).drew
theorem isK_step {n : Int} {L : List Int} {k : Nat} {x m : Int} (hm : min n 20000 = m) (h : ∀ j y, j < k → L[j]? = some y → prv 0 L j < y ∧ y < m) (hx : L[k]? = some x) (h1 : prv 0 L k < x) (h2 : x < m) : ∀ j y, j < k + 1 → L[j]? = some y → prv 0 L j < y ∧ y < m := by
  intro j y hj hy
  by_cases e : j = k
  · subst e
    rw [hx] at hy
    cases hy
    exact ⟨h1, h2⟩
  · exact h j y (by omega) hy
theorem isK_end {n : Int} {L : List Int} {m : Int} (hm : min n 20000 = m) (h0 : L.length ≤ 60) (h : ∀ j y, j < L.length → L[j]? = some y → prv 0 L j < y ∧ y < m) : isK n L = true :=
  isK_all h0 fun i x hx => by rw [hm]; exact h i x (List.getElem?_eq_some_iff.1 hx).1 hx
theorem isK_no {n : Int} {L : List Int} {k : Nat} {x m : Int} (hm : min n 20000 = m) (hx : L[k]? = some x) (h : ¬ (prv 0 L k < x ∧ x < m)) : isK n L = false := isK_bad hx (by rw [hm]; exact h)
theorem prv_succ {L : List Int} {k : Nat} {x : Int} (hx : L[k]? = some x) : prv 0 L (k + 1) = x := by simp [prv, List.getD_eq_getElem?_getD, hx]
theorem prv_nonneg {n : Int} {L : List Int} {k : Nat} {m : Int} (h : ∀ j y, j < k → L[j]? = some y → prv 0 L j < y ∧ y < m) : ∀ j, j ≤ k → j ≤ L.length → 0 ≤ prv 0 L j := by
  intro j
  induction j with
  | zero => intro _ _; exact Int.le_refl _
  | succ j ih =>
    intro h1 h2
    have hx : L[j]? = some L[j] := List.getElem?_eq_getElem (by omega)
    have h3 := h j _ (by omega) hx
    have h4 := ih (by omega) (by omega)
    rw [prv_succ hx]; omega
set_option maxHeartbeats 4000000 in
set_option maxRecDepth 100000 in
theorem is_any16 {w : World} {v : Value} {L : List Int} (n : Int) (h : NAt w v L) (hl : L.length ≤ 1073741824) :
    Calls Tryd.prog 17 #[v, .int .i64 n] w fun e w' => e = .returned (.bool (isK n L)) ∧ w' = w := by
  obtain ⟨a, cap, rfl, hcap, _, hcells⟩ := h
  have HC := Hid.mk7 hcells
  clear hcells
  by_cases h60 : 60 < L.length
  · have d1 : decide ((60 : Int) < (L.length : Nat)) = true := decide_eq_true (by omega)
    have d2 : decide (60 < L.length) = true := decide_eq_true h60
    go_enter Tryd.func17, Tryd.ntmps17
    go_wp2
    go_ret
    exact ⟨ret_bool16 (isK_long h60).symm, rfl⟩
  have d1 : decide ((60 : Int) < (L.length : Nat)) = false := decide_eq_false (by omega)
  have d2 : decide (60 < L.length) = false := decide_eq_false h60
  by_cases hn : n ≤ 20000
  · have dn : decide (n ≤ 20000) = true := decide_eq_true hn
    have dn' : decide ((20000 : Int) < n) = false := decide_eq_false (by omega)
    have HM : Hid (min n 20000 = n) := by show _ = _; omega
    have hn2 : ¬ (20000 : Int) < n := by omega
    go_enter Tryd.func17, Tryd.ntmps17
    go_wp2
    go_loopw [5, 15] (fun av iv wr => ∃ k : Nat, k ≤ L.length ∧ av = .int .i64 (prv 0 L k) ∧ iv = .int .i64 (k : Nat) ∧ Hid (∀ j y, j < k → L[j]? = some y → prv 0 L j < y ∧ y < n) ∧ wr = w) (fun _ iv _ => L.length - (intOf iv).toNat)
    case atStart => exact ⟨0, Nat.zero_le _, rfl, rfl, fun j y hj => absurd hj (Nat.not_lt_zero _), rfl⟩
    case round =>
      obtain ⟨k, hk, rfl, rfl, HV, rfl⟩ := hrel
      by_cases hlt : k < L.length
      · obtain ⟨x, hr⟩ : ∃ r, L[k]? = some r := ⟨L[k], List.getElem?_eq_getElem hlt⟩
        obtain ⟨g, off, rfl, c0⟩ := HC.out k _ hr
        have HNB := Hid.mk7 (fun h => isK_no (n := n) HM.out hr h)
        have HNX := Hid.mk7 (fun h1 h2 => isK_step HM.out HV.out hr h1 h2)
        have HPS := Hid.mk7 (prv_succ hr)
        clear hr
        generalize prv 0 L k = p at *
        by_cases h1 : x ≤ p
        · have s1 : decide (x ≤ p) = true := decide_eq_true h1
          have HF := Hid.mk7 (HNB.out (by omega))
          clear HNB HNX
          go_wp2
          go_ret
          exact ⟨ret_bool16 HF.out.symm, rfl⟩
        have s1 : decide (x ≤ p) = false := decide_eq_false h1
        by_cases h2 : n ≤ x
        · have s2 : decide (n ≤ x) = true := decide_eq_true h2
          have HF := Hid.mk7 (HNB.out (by omega))
          clear HNB HNX
          go_wp2
          go_ret
          exact ⟨ret_bool16 HF.out.symm, rfl⟩
        have s2 : decide (n ≤ x) = false := decide_eq_false h2
        have HN := Hid.mk7 (HNX.out (by omega) (by omega))
        clear HNB HNX
        go_wp2
        go_roundw
        case rel => exact ⟨k + 1, by omega, by rw [HPS.out], by go_num, HN, trivial⟩
        case measure => simp [intOf]; omega
      · obtain rfl : k = L.length := by omega
        have HE := Hid.mk7 (isK_end (n := n) HM.out (by omega) HV.out)
        go_wp2
        go_ret
        exact ⟨ret_bool16 HE.out.symm, rfl⟩
  · have dn : decide (n ≤ 20000) = false := decide_eq_false hn
    have dn' : decide ((20000 : Int) < n) = true := decide_eq_true (by omega)
    have HM : Hid (min n 20000 = 20000) := by show _ = _; omega
    have hn2 : (20000 : Int) < n := by omega
    go_enter Tryd.func17, Tryd.ntmps17
    go_wp2
    go_loopw [5, 15] (fun av iv wr => ∃ k : Nat, k ≤ L.length ∧ av = .int .i64 (prv 0 L k) ∧ iv = .int .i64 (k : Nat) ∧ Hid (∀ j y, j < k → L[j]? = some y → prv 0 L j < y ∧ y < 20000) ∧ wr = w) (fun _ iv _ => L.length - (intOf iv).toNat)
    case atStart => exact ⟨0, Nat.zero_le _, rfl, rfl, fun j y hj => absurd hj (Nat.not_lt_zero _), rfl⟩
    case round =>
      obtain ⟨k, hk, rfl, rfl, HV, rfl⟩ := hrel
      by_cases hlt : k < L.length
      · obtain ⟨x, hr⟩ : ∃ r, L[k]? = some r := ⟨L[k], List.getElem?_eq_getElem hlt⟩
        obtain ⟨g, off, rfl, c0⟩ := HC.out k _ hr
        have HNB := Hid.mk7 (fun h => isK_no (n := n) HM.out hr h)
        have HNX := Hid.mk7 (fun h1 h2 => isK_step HM.out HV.out hr h1 h2)
        have HPS := Hid.mk7 (prv_succ hr)
        clear hr
        generalize prv 0 L k = p at *
        by_cases h1 : x ≤ p
        · have s1 : decide (x ≤ p) = true := decide_eq_true h1
          have HF := Hid.mk7 (HNB.out (by omega))
          clear HNB HNX
          go_wp2
          go_ret
          exact ⟨ret_bool16 HF.out.symm, rfl⟩
        have s1 : decide (x ≤ p) = false := decide_eq_false h1
        by_cases h2 : 20000 ≤ x
        · have s2 : decide (20000 ≤ x) = true := decide_eq_true h2
          have HF := Hid.mk7 (HNB.out (by omega))
          clear HNB HNX
          go_wp2
          go_ret
          exact ⟨ret_bool16 HF.out.symm, rfl⟩
        have s2 : decide (20000 ≤ x) = false := decide_eq_false h2
        have HN := Hid.mk7 (HNX.out (by omega) (by omega))
        clear HNB HNX
        go_wp2
        go_roundw
        case rel => exact ⟨k + 1, by omega, by rw [HPS.out], by go_num, HN, trivial⟩
        case measure => simp [intOf]; omega
      · obtain rfl : k = L.length := by omega
        have HE := Hid.mk7 (isK_end (n := n) HM.out (by omega) HV.out)
        go_wp2
        go_ret
        exact ⟨ret_bool16 HE.out.symm, rfl⟩
set_option maxHeartbeats 8000000 in
set_option maxRecDepth 100000 in
theorem ris_any16 {w : World} {v : Value} {L : List Int} (n : Int) (h : NAt w v L) (hl : L.length ≤ 1073741824) :
    Calls Tryd.prog 18 #[v, .int .i64 n] w fun e w' => e = .returned (.bool (isK n L)) ∧ Below w.heap.size w w' := by
  obtain ⟨a, cap, rfl, hcap, _, hcells⟩ := h
  have HC := Hid.mk7 hcells
  clear hcells
  by_cases hn : n ≤ 20000
  · have dn : decide (n ≤ 20000) = true := decide_eq_true hn
    have dn' : decide ((20000 : Int) < n) = false := decide_eq_false (by omega)
    have HM : Hid (min n 20000 = n) := by show _ = _; omega
    have hn2 : ¬ (20000 : Int) < n := by omega
    go_enter Tryd.func18, Tryd.ntmps18
    go_wp2
    go_loopw [5] (fun iv wr => ∃ k : Nat, k ≤ L.length ∧ iv = .int .i64 (k : Nat) ∧ Hid (∀ j y, j < k → L[j]? = some y → prv 0 L j < y ∧ y < n) ∧ Below w.heap.size w wr) (fun iv _ => L.length - (intOf iv).toNat)
    case atStart => exact ⟨0, Nat.zero_le _, rfl, fun j y hj => absurd hj (Nat.not_lt_zero _), Below.refl _ _⟩
    case round =>
      obtain ⟨k, hk, rfl, HV, hb⟩ := hrel
      by_cases hlt : k < L.length
      · obtain ⟨x, hr⟩ : ∃ r, L[k]? = some r := ⟨L[k], List.getElem?_eq_getElem hlt⟩
        have HBD := Hid.mk7 (fun h => isK_no (n := n) HM.out hr h)
        have HNX := Hid.mk7 (fun h1 h2 => isK_step HM.out HV.out hr h1 h2)
        have hpn := prv_nonneg (n := n) HV.out k (Nat.le_refl _) hk
        obtain ⟨g, off, rfl, q0⟩ := HC.out k _ hr
        have c0 := cell_later7 hb (Nat.le_refl _) q0
        clear q0 hr
        by_cases h0 : x < 1
        · have s0 : decide (x < 1) = true := decide_eq_true h0
          have HF := Hid.mk7 (HBD.out (by omega))
          clear HBD HNX
          go_wp2_with fail
          go_quiet (fail)
          have HB2 := Hid.mk7 (drewN16 hb nq)
          go_wp2
          go_ret
          exact ⟨ret_bool16 HF.out.symm, HB2.out⟩
        have s0 : decide (x < 1) = false := decide_eq_false h0
        by_cases h1 : n ≤ x
        · have s1 : decide (n ≤ x) = true := decide_eq_true h1
          have HF := Hid.mk7 (HBD.out (by omega))
          clear HBD HNX
          go_wp2_with fail
          go_quiet (fail)
          have HB2 := Hid.mk7 (drewN16 hb nq)
          go_wp2
          go_ret
          exact ⟨ret_bool16 HF.out.symm, HB2.out⟩
        have s1 : decide (n ≤ x) = false := decide_eq_false h1
        by_cases hk0 : k = 0
        · have HN := Hid.mk7 (HNX.out (by rw [hk0]; show (0 : Int) < x; omega) (by omega))
          have sk : decide ((0 : Int) < (k : Int)) = false := decide_eq_false (by omega)
          have sk2 : decide (0 < k) = false := decide_eq_false (by omega)
          clear HBD HNX hpn hk0
          go_wp2_with fail
          go_quiet (fail)
          have HB2 := Hid.mk7 (drewN16 hb nq)
          go_wp2
          go_roundw
          case rel => exact ⟨k + 1, by omega, by go_num, HN, HB2.out⟩
          case measure => simp [intOf]; omega
        obtain ⟨k, rfl⟩ : ∃ j, k = j + 1 := ⟨k - 1, by omega⟩
        · clear hk0
          have hr' : L[k]? = some L[k] := List.getElem?_eq_getElem (by omega)
          obtain ⟨y, hy⟩ : ∃ y, L[k] = y := ⟨_, rfl⟩
          rw [hy] at hr'
          have hp := prv_succ hr'
          rw [hp] at HBD HNX hpn
          obtain ⟨g', off', e', q1⟩ := HC.out k _ hr'
          cases e'
          have c1 := cell_later7 hb (Nat.le_refl _) q1
          have sk : decide ((0 : Int) < ((k + 1 : Nat) : Int)) = true := decide_eq_true (by omega)
          have sk2 : decide (0 < k + 1) = true := decide_eq_true (by omega)
          have ek : ((k + 1 : Nat) : Int) - 1 = (k : Int) := by omega
          clear q1 hr' hp hy
          by_cases h2 : x ≤ y
          · have s2 : decide (x ≤ y) = true := decide_eq_true h2
            have HF := Hid.mk7 (HBD.out (by omega))
            clear HBD HNX
            go_wp2_with fail
            go_quiet (fail)
            have HB2 := Hid.mk7 (drewN16 hb nq)
            go_wp2
            go_ret
            exact ⟨ret_bool16 HF.out.symm, HB2.out⟩
          · have s2 : decide (x ≤ y) = false := decide_eq_false h2
            have HN := Hid.mk7 (HNX.out (by omega) (by omega))
            clear HBD HNX
            go_wp2_with fail
            go_quiet (fail)
            have HB2 := Hid.mk7 (drewN16 hb nq)
            go_wp2
            go_roundw
            case rel => exact ⟨k + 2, by omega, by go_num, HN, HB2.out⟩
            case measure => simp [intOf]; omega
      · obtain rfl : k = L.length := by omega
        by_cases hl : 60 < L.length
        · have d1 : decide ((L.length : Int) ≤ 60) = false := decide_eq_false (by omega)
          have d2 : decide (L.length ≤ 60) = false := decide_eq_false (by omega)
          have HE := Hid.mk7 (isK_long (n := n) hl)
          go_wp2
          go_ret
          exact ⟨ret_bool16 HE.out.symm, hb⟩
        · have d1 : decide ((L.length : Int) ≤ 60) = true := decide_eq_true (by omega)
          have d2 : decide (L.length ≤ 60) = true := decide_eq_true (by omega)
          have HE := Hid.mk7 (isK_end (n := n) HM.out (by omega) HV.out)
          go_wp2
          go_ret
          exact ⟨ret_bool16 HE.out.symm, hb⟩
  · have dn : decide (n ≤ 20000) = false := decide_eq_false hn
    have dn' : decide ((20000 : Int) < n) = true := decide_eq_true (by omega)
    have HM : Hid (min n 20000 = 20000) := by show _ = _; omega
    have hn2 : (20000 : Int) < n := by omega
    go_enter Tryd.func18, Tryd.ntmps18
    go_wp2
    go_loopw [5] (fun iv wr => ∃ k : Nat, k ≤ L.length ∧ iv = .int .i64 (k : Nat) ∧ Hid (∀ j y, j < k → L[j]? = some y → prv 0 L j < y ∧ y < 20000) ∧ Below w.heap.size w wr) (fun iv _ => L.length - (intOf iv).toNat)
    case atStart => exact ⟨0, Nat.zero_le _, rfl, fun j y hj => absurd hj (Nat.not_lt_zero _), Below.refl _ _⟩
    case round =>
      obtain ⟨k, hk, rfl, HV, hb⟩ := hrel
      by_cases hlt : k < L.length
      · obtain ⟨x, hr⟩ : ∃ r, L[k]? = some r := ⟨L[k], List.getElem?_eq_getElem hlt⟩
        have HBD := Hid.mk7 (fun h => isK_no (n := n) HM.out hr h)
        have HNX := Hid.mk7 (fun h1 h2 => isK_step HM.out HV.out hr h1 h2)
        have hpn := prv_nonneg (n := n) HV.out k (Nat.le_refl _) hk
        obtain ⟨g, off, rfl, q0⟩ := HC.out k _ hr
        have c0 := cell_later7 hb (Nat.le_refl _) q0
        clear q0 hr
        by_cases h0 : x < 1
        · have s0 : decide (x < 1) = true := decide_eq_true h0
          have HF := Hid.mk7 (HBD.out (by omega))
          clear HBD HNX
          go_wp2_with fail
          go_quiet (fail)
          have HB2 := Hid.mk7 (drewN16 hb nq)
          go_wp2
          go_ret
          exact ⟨ret_bool16 HF.out.symm, HB2.out⟩
        have s0 : decide (x < 1) = false := decide_eq_false h0
        by_cases h1 : 20000 ≤ x
        · have s1 : decide (20000 ≤ x) = true := decide_eq_true h1
          have HF := Hid.mk7 (HBD.out (by omega))
          clear HBD HNX
          go_wp2_with fail
          go_quiet (fail)
          have HB2 := Hid.mk7 (drewN16 hb nq)
          go_wp2
          go_ret
          exact ⟨ret_bool16 HF.out.symm, HB2.out⟩
        have s1 : decide (20000 ≤ x) = false := decide_eq_false h1
        by_cases hk0 : k = 0
        · have HN := Hid.mk7 (HNX.out (by rw [hk0]; show (0 : Int) < x; omega) (by omega))
          have sk : decide ((0 : Int) < (k : Int)) = false := decide_eq_false (by omega)
          have sk2 : decide (0 < k) = false := decide_eq_false (by omega)
          clear HBD HNX hpn hk0
          go_wp2_with fail
          go_quiet (fail)
          have HB2 := Hid.mk7 (drewN16 hb nq)
          go_wp2
          go_roundw
          case rel => exact ⟨k + 1, by omega, by go_num, HN, HB2.out⟩
          case measure => simp [intOf]; omega
        obtain ⟨k, rfl⟩ : ∃ j, k = j + 1 := ⟨k - 1, by omega⟩
        · clear hk0
          have hr' : L[k]? = some L[k] := List.getElem?_eq_getElem (by omega)
          obtain ⟨y, hy⟩ : ∃ y, L[k] = y := ⟨_, rfl⟩
          rw [hy] at hr'
          have hp := prv_succ hr'
          rw [hp] at HBD HNX hpn
          obtain ⟨g', off', e', q1⟩ := HC.out k _ hr'
          cases e'
          have c1 := cell_later7 hb (Nat.le_refl _) q1
          have sk : decide ((0 : Int) < ((k + 1 : Nat) : Int)) = true := decide_eq_true (by omega)
          have sk2 : decide (0 < k + 1) = true := decide_eq_true (by omega)
          have ek : ((k + 1 : Nat) : Int) - 1 = (k : Int) := by omega
          clear q1 hr' hp hy
          by_cases h2 : x ≤ y
          · have s2 : decide (x ≤ y) = true := decide_eq_true h2
            have HF := Hid.mk7 (HBD.out (by omega))
            clear HBD HNX
            go_wp2_with fail
            go_quiet (fail)
            have HB2 := Hid.mk7 (drewN16 hb nq)
            go_wp2
            go_ret
            exact ⟨ret_bool16 HF.out.symm, HB2.out⟩
          · have s2 : decide (x ≤ y) = false := decide_eq_false h2
            have HN := Hid.mk7 (HNX.out (by omega) (by omega))
            clear HBD HNX
            go_wp2_with fail
            go_quiet (fail)
            have HB2 := Hid.mk7 (drewN16 hb nq)
            go_wp2
            go_roundw
            case rel => exact ⟨k + 2, by omega, by go_num, HN, HB2.out⟩
            case measure => simp [intOf]; omega
      · obtain rfl : k = L.length := by omega
        by_cases hl : 60 < L.length
        · have d1 : decide ((L.length : Int) ≤ 60) = false := decide_eq_false (by omega)
          have d2 : decide (L.length ≤ 60) = false := decide_eq_false (by omega)
          have HE := Hid.mk7 (isK_long (n := n) hl)
          go_wp2
          go_ret
          exact ⟨ret_bool16 HE.out.symm, hb⟩
        · have d1 : decide ((L.length : Int) ≤ 60) = true := decide_eq_true (by omega)
          have d2 : decide (L.length ≤ 60) = true := decide_eq_true (by omega)
          have HE := Hid.mk7 (isK_end (n := n) HM.out (by omega) HV.out)
          go_wp2
          go_ret
          exact ⟨ret_bool16 HE.out.symm, hb⟩
theorem lnK_take {y x : Int} {L : List Int} {k : Nat} (hx : L[k]? = some x) : lnK y (L.take (k + 1)) = lnK y (L.take k) + if x ≤ y then 1 else 0 := by
  rw [List.take_add_one, hx]
  unfold lnK
  rw [List.countP_append]
  simp [List.countP_cons]
set_option maxHeartbeats 4000000 in
set_option maxRecDepth 100000 in
theorem line_any16 {w : World} {v : Value} {L : List Int} (y : Int) (h : NAt w v L) (hl : L.length ≤ 1073741824) :
    Calls Tryd.prog 20 #[v, .int .i64 y] w fun e w' => e = .returned (.int .i64 (lnK y L : Nat)) ∧ w' = w := by
  obtain ⟨a, cap, rfl, hcap, _, hcells⟩ := h
  have HC := Hid.mk7 hcells
  clear hcells
  go_enter Tryd.func20, Tryd.ntmps20
  go_wp2
  go_loopw [5, 10] (fun nv iv wr => ∃ (k m : Nat), k ≤ L.length ∧ m ≤ k ∧ nv = .int .i64 (m : Nat) ∧ iv = .int .i64 (k : Nat) ∧ Hid (lnK y (L.take k) = m) ∧ wr = w) (fun _ iv _ => L.length - (intOf iv).toNat)
  case atStart => exact ⟨0, 0, Nat.zero_le _, Nat.le_refl _, rfl, rfl, rfl, rfl⟩
  case round =>
    obtain ⟨k, m, hk, hmk, rfl, rfl, HV, rfl⟩ := hrel
    by_cases hlt : k < L.length
    · obtain ⟨x, hr⟩ : ∃ r, L[k]? = some r := ⟨L[k], List.getElem?_eq_getElem hlt⟩
      obtain ⟨g, off, rfl, c0⟩ := HC.out k _ hr
      have HT := Hid.mk7 (lnK_take (y := y) hr)
      clear hr
      by_cases h1 : x ≤ y
      · have s1 : decide (x ≤ y) = true := decide_eq_true h1
        have HN : Hid (lnK y (L.take (k + 1)) = m + 1) := by show _ = _; rw [HT.out, HV.out, if_pos h1]
        clear HT HV
        go_wp2
        go_roundw
        case rel => exact ⟨k + 1, m + 1, by omega, by omega, by go_num, by go_num, HN, trivial⟩
        case measure => simp [intOf]; omega
      · have s1 : decide (x ≤ y) = false := decide_eq_false h1
        have HN : Hid (lnK y (L.take (k + 1)) = m) := by show _ = _; rw [HT.out, HV.out, if_neg h1]; rfl
        clear HT HV
        go_wp2
        go_roundw
        case rel => exact ⟨k + 1, m, by omega, by omega, rfl, by go_num, HN, trivial⟩
        case measure => simp [intOf]; omega
    · obtain rfl : k = L.length := by omega
      have HE : Hid (lnK y L = m) := by have := HV.out; rw [List.take_length] at this; exact this
      go_wp2
      go_ret
      exact ⟨ret_int16 (by rw [HE.out]), rfl⟩
theorem same_len16 {A B : List Int} (h : A.length ≠ B.length) : decide (A = B) = false := by
  simp only [decide_eq_false_iff_not]
  intro e; exact h (by rw [e])
theorem same_at16 {A B : List Int} {k : Nat} {x y : Int} (hx : A[k]? = some x) (hy : B[k]? = some y) (h : x ≠ y) : decide (A = B) = false := by
  simp only [decide_eq_false_iff_not]
  intro e
  rw [e, hy] at hx
  cases hx
  exact h rfl
theorem same_end16 {A B : List Int} (hl : A.length = B.length) (h : ∀ j, j < A.length → A[j]? = B[j]?) : decide (A = B) = true := by
  rw [decide_eq_true_eq]
  apply List.ext_getElem?
  intro j
  by_cases hj : j < A.length
  · exact h j hj
  · rw [List.getElem?_eq_none (by omega), List.getElem?_eq_none (by omega)]
set_option maxHeartbeats 4000000 in
set_option maxRecDepth 100000 in
theorem same_any16 {w : World} {v u : Value} {A B : List Int} (h : NAt w v A) (h' : NAt w u B) (hA : A.length ≤ 1073741824) (hB : B.length ≤ 1073741824) :
    Calls Tryd.prog 19 #[v, u] w fun e w' => e = .returned (.bool (decide (A = B))) ∧ Below w.heap.size w w' := by
  obtain ⟨a, cap, rfl, hcap, _, hcells⟩ := h
  obtain ⟨b, cbp, rfl, hcbp, _, hbells⟩ := h'
  have HC := Hid.mk7 hcells
  have HD := Hid.mk7 hbells
  clear hcells hbells
  by_cases hl : A.length = B.length
  case neg =>
    have d1 : ((A.length : Int) != (B.length : Int)) = true := by simpa using (by omega : ¬ (A.length : Int) = (B.length : Int))
    have HF := Hid.mk7 (same_len16 hl)
    go_enter Tryd.func19, Tryd.ntmps19
    go_wp2
    go_ret
    exact ⟨ret_bool16 HF.out.symm, Below.refl _ _⟩
  have d1 : ((A.length : Int) != (B.length : Int)) = false := by simpa using (by omega : (A.length : Int) = (B.length : Int))
  have HLN := Hid.mk7 hl
  clear hl
  go_enter Tryd.func19, Tryd.ntmps19
  go_wp2
  go_loopw [5] (fun iv wr => ∃ k : Nat, k ≤ A.length ∧ iv = .int .i64 (k : Nat) ∧ Hid (∀ j, j < k → A[j]? = B[j]?) ∧ Below w.heap.size w wr) (fun iv _ => A.length - (intOf iv).toNat)
  case atStart => exact ⟨0, Nat.zero_le _, rfl, fun j hj => absurd hj (Nat.not_lt_zero _), Below.refl _ _⟩
  case round =>
    obtain ⟨k, hk, rfl, HV, hb⟩ := hrel
    by_cases hlt : k < A.length
    · have hlt' : k < B.length := by have := HLN.out; omega
      obtain ⟨x, hr⟩ : ∃ r, A[k]? = some r := ⟨A[k], List.getElem?_eq_getElem hlt⟩
      obtain ⟨y, hs⟩ : ∃ r, B[k]? = some r := ⟨B[k], List.getElem?_eq_getElem hlt'⟩
      obtain ⟨g, off, rfl, q0⟩ := HC.out k _ hr
      obtain ⟨g', off', rfl, q1⟩ := HD.out k _ hs
      have c0 := cell_later7 hb (Nat.le_refl _) q0
      have c1 := cell_later7 hb (Nat.le_refl _) q1
      have HNB := Hid.mk7 (fun h => same_at16 hr hs h)
      have HNX : Hid (x = y → ∀ j, j < k + 1 → A[j]? = B[j]?) := fun e j hj => by
        by_cases ej : j = k
        · subst ej; rw [hr, hs, e]
        · exact HV.out j (by omega)
      clear q0 q1 hr hs HV
      by_cases h1 : x = y
      · have s1 : (x != y) = false := by simpa using h1
        have HN := Hid.mk7 (HNX.out h1)
        clear HNB HNX h1
        go_wp2_with fail
        go_quiet (fail)
        have HB2 := Hid.mk7 (drewN16 hb nq)
        go_wp2
        go_roundw
        case rel => exact ⟨k + 1, by omega, by go_num, HN, HB2.out⟩
        case measure => simp [intOf]; omega
      · have s1 : (x != y) = true := by simpa using h1
        have HF := Hid.mk7 (HNB.out h1)
        clear HNB HNX h1
        go_wp2_with fail
        go_quiet (fail)
        have HB2 := Hid.mk7 (drewN16 hb nq)
        go_wp2
        go_ret
        exact ⟨ret_bool16 HF.out.symm, HB2.out⟩
    · obtain rfl : k = A.length := by omega
      have HE := Hid.mk7 (same_end16 HLN.out HV.out)
      go_wp2
      go_ret
      exact ⟨ret_bool16 HE.out.symm, hb⟩
end Go.Proofs.YtafhogfbjklboaaDoor
