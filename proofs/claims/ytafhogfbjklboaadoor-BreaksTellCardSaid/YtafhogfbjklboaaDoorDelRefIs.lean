/- The reference's Is. -/
import Derived.Test.YtafhogfbjklboaaDoorDelSize
namespace Go.Proofs.YtafhogfbjklboaaDoor
open Go.RowKit Go.Sort
set_option linter.unusedSimpArgs false
set_option linter.unusedVariables false

theorem ri_copy {base en sz : Int} {kd : Nat} {es : List El} {k : Nat} {f t : Int} (hr : es[k]? = some (f, t, [])) :
    isR base en kd sz (es.drop k) = (decide (en ≤ f ∧ (kd = 2 → en < f) ∧ f < t ∧ t ≤ base ∧ t - f ≤ 20000 - sz) && isR base t 2 (sz + (t - f)) (es.drop (k + 1))) := by
  rw [drop_consE hr, isR, isE, if_pos rfl, if_pos rfl]
theorem ri_ins {base en sz : Int} {kd : Nat} {es : List El} {k : Nat} {f t : Int} {T : List UInt8} (hr : es[k]? = some (f, t, T)) (hT : T ≠ []) :
    isR base en kd sz (es.drop k) = ((decide (f = 0 ∧ t = 0 ∧ kd ≠ 1 ∧ (T.length : Int) ≤ 20000 - sz) && vld T) && isR base en 1 (sz + T.length) (es.drop (k + 1))) := by
  rw [drop_consE hr, isR, isE, if_neg hT, if_neg hT]
set_option maxHeartbeats 8000000 in
set_option maxRecDepth 100000 in
theorem ris_any {w : World} {v : Value} {es : List El} (base : Int) (h : ElAt w v es) (hsm : Sm es maxLen) :
    Calls Tryd.prog 35 #[.agg #[.int .i64 base, v]] w fun e w' => e = .returned (.bool (isB base es)) ∧ Below w.heap.size w w' := by
  have HV := Hid.mk7 h
  obtain ⟨a, cap, rfl, hcap, _, hcells⟩ := h
  have HSM := Hid.mk7 hsm
  have RDH := Hid.mk7 (Rd.new w (.int .i64 base) (.slice a es.length cap))
  have BH := Hid.mk7 (below_newE (Below.refl w.heap.size w) (.cells #[.int .i64 base, .slice a es.length cap] 25))
  have HF : Hid (isB base es = (decide (0 ≤ base ∧ base ≤ 20000 ∧ es.length ≤ 60) && isR base 0 0 0 es)) := rfl
  have r0 := RDH.out.c0
  have r1 := RDH.out.c1
  clear hcells hsm
  by_cases hb0 : base < 0
  · have d0 : decide (base < 0) = true := decide_eq_true hb0
    have HF2 : Hid (isB base es = false) := by show _ = _; rw [HF.out, decide_eq_false (by omega), Bool.false_and]
    go_enter Tryd.func35, Tryd.ntmps35
    go_wp2
    go_ret
    exact ⟨ret_boolE HF2.out.symm, BH.out⟩
  have d0 : decide (base < 0) = false := decide_eq_false hb0
  by_cases hb1 : 20000 < base
  · have d1 : decide (20000 < base) = true := decide_eq_true hb1
    have HF2 : Hid (isB base es = false) := by show _ = _; rw [HF.out, decide_eq_false (by omega), Bool.false_and]
    go_enter Tryd.func35, Tryd.ntmps35
    go_wp2
    go_ret
    exact ⟨ret_boolE HF2.out.symm, BH.out⟩
  have d1 : decide (20000 < base) = false := decide_eq_false hb1
  by_cases hlen : 60 < es.length
  · have d2 : decide ((60 : Int) < (es.length : Int)) = true := decide_eq_true (by omega)
    have HF2 : Hid (isB base es = false) := by show _ = _; rw [HF.out, decide_eq_false (by omega), Bool.false_and]
    go_enter Tryd.func35, Tryd.ntmps35
    go_wp2
    go_ret
    exact ⟨ret_boolE HF2.out.symm, BH.out⟩
  have d2 : decide ((60 : Int) < (es.length : Int)) = false := decide_eq_false (by omega)
  have HF2 : Hid (isB base es = isR base 0 0 0 es) := by show _ = _; rw [HF.out, decide_eq_true (by omega), Bool.true_and]
  have HV0 := Hid.mk7 (HV.out.later BH.out)
  clear HF HV
  go_enter Tryd.func35, Tryd.ntmps35
  generalize hW : w.alloc (.cells #[.int .i64 base, .slice a es.length cap] 25) = W0 at *
  obtain ⟨_, _, hve, _, _, hcells⟩ := id HV0.out
  cases hve
  have HC := Hid.mk7 hcells
  clear hcells
  go_wp2_with fail
  try rw [hW]
  clear hW
  go_wp2
  go_loopw [3, 4, 5, 6] (fun lv tv sv iv wr => ∃ (k : Nat) (en sz : Int) (tx : Bool), k ≤ es.length ∧ iv = .int .i64 (k : Nat) ∧ lv = .int .i64 en ∧ tv = .bool tx ∧ sv = .int .i64 sz ∧ 0 ≤ en ∧ en ≤ 20000 ∧ 0 ≤ sz ∧ sz ≤ 20000 ∧ Hid (tx = decide (kdo es k ≠ 2)) ∧ Hid (isR base 0 0 0 es = isR base en (kdo es k) sz (es.drop k)) ∧ Below W0.heap.size W0 wr) (fun _ _ _ iv _ => es.length - (intOf iv).toNat)
  case atStart => exact ⟨0, 0, 0, true, Nat.zero_le _, rfl, rfl, rfl, rfl, by omega, by omega, by omega, by omega, by show _ = _; simp [kdo], rfl, Below.refl _ _⟩
  case round =>
    obtain ⟨k, en, sz, tx, hk, rfl, rfl, rfl, rfl, he0, he1, hs0, hs1, HTX, HS, hb⟩ := hrel
    have RDk := Hid.mk7 (RDH.out.later hb)
    have gz := RDk.out.lt
    have rk0 := RDk.out.c0
    have rk1 := RDk.out.c1
    clear r0 r1
    by_cases hlt : k < es.length
    · obtain ⟨⟨f, t, T⟩, hr⟩ : ∃ r, es[k]? = some r := ⟨es[k], List.getElem?_eq_getElem hlt⟩
      obtain ⟨g, off, rfl, q0, q1, q2⟩ := HC.out k _ hr
      have c0 := cell_later7 hb (Nat.le_refl _) q0
      have c1 := cell_later7 hb (Nat.le_refl _) q1
      have c2 := cell_later7 hb (Nat.le_refl _) q2
      simp only at c0 c1 c2
      have gl : g < wr.heap.size := World.block_lt_of_cell? wr ⟨g, _, none⟩ c0
      have hTS : T.length ≤ maxLen := HSM.out _ (List.mem_of_getElem? hr)
      have HR := Hid.mk7 hr
      have HVA := Hid.mk7 (fun W => refvalid_any (cacc T) W (by rw [cacc_size]; exact hTS))
      rw [cacc_toList] at HVA
      have HB1 := Hid.mk7 (below_newE hb (.cells #[.int .i64 f, .int .i64 t, .string (cacc T)] 55))
      have hcs : (cacc T).size = T.length := cacc_size T
      unfold maxLen at hTS
      clear q0 q1 q2 hr hb
      generalize cacc T = s at *
      have HP : (k = 0 ∧ kdo es k = 0) ∨ (0 < k ∧ kdo es k = 2) ∨ (0 < k ∧ kdo es k = 1) := by
        cases k with
        | zero => exact Or.inl ⟨rfl, rfl⟩
        | succ j =>
          obtain ⟨⟨f', t', T'⟩, hr'⟩ : ∃ r, es[j]? = some r := ⟨es[j], List.getElem?_eq_getElem (by omega)⟩
          by_cases hT' : T' = []
          · subst hT'; exact Or.inr (Or.inl ⟨by omega, kdo_copy hr'⟩)
          · exact Or.inr (Or.inr ⟨by omega, kdo_text hr' hT'⟩)
      rcases HP with ⟨hk0, hkd⟩ | ⟨hk0, hkd⟩ | ⟨hk0, hkd⟩
      · rw [hkd] at HTX HS
        obtain rfl : tx = true := HTX.out
        clear HTX
        have dk : decide (0 < (k : Int)) = false := decide_eq_false (by omega)
        have hk0x : ¬ 0 < k := by omega
        clear hk0
        by_cases hT0 : T = []
        · have hr := HR.out
          rw [hT0] at hr
          have HGO : Hid (isR base en 0 sz (es.drop k) = (decide (en ≤ f ∧ (0 = 2 → en < f) ∧ f < t ∧ t ≤ base ∧ t - f ≤ 20000 - sz) && isR base t 2 (sz + (t - f)) (es.drop (k + 1)))) := ri_copy hr
          have HKD : Hid (kdo es (k + 1) = 2) := kdo_copy hr
          have hs00 : s.size = 0 := by rw [hcs, hT0]; rfl
          clear hr hT0 hcs HVA
          obtain rfl := eq_of_size hs00
          clear hs00
          by_cases h5 : f < en
          · have e5 : decide (f < en) = true := decide_eq_true h5
            have HBAD : Hid (isR base 0 0 0 es = false) := by
              show _ = _
              rw [HS.out, HGO.out]
              rw [decide_eq_false (by omega), Bool.false_and]
            go_wp2
            go_ret
            exact ⟨ret_boolE (HF2.out.trans HBAD.out).symm, BH.out.trans (HB1.out.mono BH.out.size)⟩
          · have e5 : decide (f < en) = false := decide_eq_false h5
            by_cases h7 : t ≤ f
            · have e7 : decide (t ≤ f) = true := decide_eq_true h7
              have HBAD : Hid (isR base 0 0 0 es = false) := by
                show _ = _
                rw [HS.out, HGO.out]
                rw [decide_eq_false (by omega), Bool.false_and]
              go_wp2
              go_ret
              exact ⟨ret_boolE (HF2.out.trans HBAD.out).symm, BH.out.trans (HB1.out.mono BH.out.size)⟩
            · have e7 : decide (t ≤ f) = false := decide_eq_false h7
              by_cases h8 : base < t
              · have e8 : decide (base < t) = true := decide_eq_true h8
                have HBAD : Hid (isR base 0 0 0 es = false) := by
                  show _ = _
                  rw [HS.out, HGO.out]
                  rw [decide_eq_false (by omega), Bool.false_and]
                go_wp2
                go_ret
                exact ⟨ret_boolE (HF2.out.trans HBAD.out).symm, BH.out.trans (HB1.out.mono BH.out.size)⟩
              · have e8 : decide (base < t) = false := decide_eq_false h8
                by_cases h9 : 20000 - sz < t - f
                · have e9 : decide (20000 - sz < t - f) = true := decide_eq_true h9
                  have HBAD : Hid (isR base 0 0 0 es = false) := by
                    show _ = _
                    rw [HS.out, HGO.out]
                    rw [decide_eq_false (by omega), Bool.false_and]
                  go_wp2
                  go_ret
                  exact ⟨ret_boolE (HF2.out.trans HBAD.out).symm, BH.out.trans (HB1.out.mono BH.out.size)⟩
                · have e9 : decide (20000 - sz < t - f) = false := decide_eq_false h9
                  have HS2 : Hid (isR base 0 0 0 es = isR base t 2 (sz + (t - f)) (es.drop (k + 1))) := by
                    show _ = _
                    rw [HS.out, HGO.out, decide_eq_true (by omega), Bool.true_and]
                  go_wp2
                  go_roundw
                  case rel => exact ⟨k + 1, t, sz + (t - f), false, by omega, by go_num, rfl, rfl, by go_num, by omega, by omega, by omega, by omega, by show _ = _; rw [HKD.out]; rfl, by show _ = _; rw [HKD.out]; exact HS2.out, HB1.out⟩
                  case measure => simp [intOf]; omega
        · obtain ⟨n1, n2⟩ := size_of_ne (s := s) (by rw [hcs]; exact fun e => hT0 (List.eq_nil_of_length_eq_zero e))
          have HGO : Hid (isR base en 0 sz (es.drop k) = ((decide (f = 0 ∧ t = 0 ∧ 0 ≠ 1 ∧ (T.length : Int) ≤ 20000 - sz) && vld T) && isR base en 1 (sz + T.length) (es.drop (k + 1)))) := ri_ins HR.out hT0
          have HKD : Hid (kdo es (k + 1) = 1) := kdo_text HR.out hT0
          clear hT0
          generalize hTl : T.length = Tl at *
          by_cases h1 : f ≠ 0
          · have e1 : (f != 0) = true := by simpa using h1
            have e1b : (f == 0) = false := by simpa using h1
            have e1c : decide (f = 0) = false := by simpa using h1
            have HBAD : Hid (isR base 0 0 0 es = false) := by
              show _ = _
              rw [HS.out, HGO.out]
              rw [decide_eq_false (by omega), Bool.false_and, Bool.false_and]
            go_wp2
            go_ret
            exact ⟨ret_boolE (HF2.out.trans HBAD.out).symm, BH.out.trans (HB1.out.mono BH.out.size)⟩
          · obtain rfl : f = 0 := by omega
            by_cases h2 : t ≠ 0
            · have e2 : (t != 0) = true := by simpa using h2
              have e2b : (t == 0) = false := by simpa using h2
              have e2c : decide (t = 0) = false := by simpa using h2
              have HBAD : Hid (isR base 0 0 0 es = false) := by
                show _ = _
                rw [HS.out, HGO.out]
                rw [decide_eq_false (by omega), Bool.false_and, Bool.false_and]
              go_wp2
              go_ret
              exact ⟨ret_boolE (HF2.out.trans HBAD.out).symm, BH.out.trans (HB1.out.mono BH.out.size)⟩
            · obtain rfl : t = 0 := by omega
              by_cases h4 : 20000 - sz < (s.size : Int)
              · have e4 : decide (20000 - sz < (s.size : Int)) = true := decide_eq_true h4
                have HBAD : Hid (isR base 0 0 0 es = false) := by
                  show _ = _
                  rw [HS.out, HGO.out]
                  rw [decide_eq_false (by omega), Bool.false_and, Bool.false_and]
                go_wp2
                go_ret
                exact ⟨ret_boolE (HF2.out.trans HBAD.out).symm, BH.out.trans (HB1.out.mono BH.out.size)⟩
              · have e4 : decide (20000 - sz < (s.size : Int)) = false := decide_eq_false h4
                cases hv : vld T with
                | false =>
                  rw [hv] at HVA
                  have HBAD : Hid (isR base 0 0 0 es = false) := by
                    show _ = _
                    rw [HS.out, HGO.out, hv, Bool.and_false, Bool.false_and]
                  go_wp2_with fail
                  refine (HVA.out _).mono ?_
                  rintro e w3 ⟨rfl, hw3⟩
                  go_wp2
                  go_ret
                  exact ⟨ret_boolE (HF2.out.trans HBAD.out).symm, BH.out.trans (HB1.out.mono BH.out.size)⟩
                | true =>
                  rw [hv] at HVA
                  have HS2 : Hid (isR base 0 0 0 es = isR base en 1 (sz + (s.size : Int)) (es.drop (k + 1))) := by
                    show _ = _
                    rw [HS.out, HGO.out, hv, decide_eq_true (by omega), hcs]
                    rfl
                  have rn0 := (Re.new wr (.int .i64 0) (.int .i64 0) (.string s)).c2
                  go_wp2_with fail
                  refine (HVA.out _).mono ?_
                  rintro e w3 ⟨rfl, hw3⟩
                  subst hw3
                  go_wp2
                  go_roundw
                  case rel => exact ⟨k + 1, en, sz + (s.size : Int), true, by omega, by go_num, rfl, rfl, by go_num, by omega, by omega, by omega, by omega, by show _ = _; rw [HKD.out]; rfl, by show _ = _; rw [HKD.out]; exact HS2.out, HB1.out⟩
                  case measure => simp [intOf]; omega
      · rw [hkd] at HTX HS
        obtain rfl : tx = false := HTX.out
        clear HTX
        have dk : decide (0 < (k : Int)) = true := decide_eq_true (by omega)
        by_cases hT0 : T = []
        · have hr := HR.out
          rw [hT0] at hr
          have HGO : Hid (isR base en 2 sz (es.drop k) = (decide (en ≤ f ∧ (2 = 2 → en < f) ∧ f < t ∧ t ≤ base ∧ t - f ≤ 20000 - sz) && isR base t 2 (sz + (t - f)) (es.drop (k + 1)))) := ri_copy hr
          have HKD : Hid (kdo es (k + 1) = 2) := kdo_copy hr
          have hs00 : s.size = 0 := by rw [hcs, hT0]; rfl
          clear hr hT0 hcs HVA
          obtain rfl := eq_of_size hs00
          clear hs00
          by_cases h5 : f < en
          · have e5 : decide (f < en) = true := decide_eq_true h5
            have HBAD : Hid (isR base 0 0 0 es = false) := by
              show _ = _
              rw [HS.out, HGO.out]
              rw [decide_eq_false (by omega), Bool.false_and]
            go_wp2
            go_ret
            exact ⟨ret_boolE (HF2.out.trans HBAD.out).symm, BH.out.trans (HB1.out.mono BH.out.size)⟩
          · have e5 : decide (f < en) = false := decide_eq_false h5
            by_cases h6 : f = en
            · have e6 : (f == en) = true := by simpa using h6
              subst h6
              have HBAD : Hid (isR base 0 0 0 es = false) := by
                show _ = _
                rw [HS.out, HGO.out]
                rw [decide_eq_false (by omega), Bool.false_and]
              go_wp2
              go_ret
              exact ⟨ret_boolE (HF2.out.trans HBAD.out).symm, BH.out.trans (HB1.out.mono BH.out.size)⟩
            · have e6 : (f == en) = false := by simpa using h6
              have e6b : decide (f = en) = false := by simpa using h6
              by_cases h7 : t ≤ f
              · have e7 : decide (t ≤ f) = true := decide_eq_true h7
                have HBAD : Hid (isR base 0 0 0 es = false) := by
                  show _ = _
                  rw [HS.out, HGO.out]
                  rw [decide_eq_false (by omega), Bool.false_and]
                go_wp2
                go_ret
                exact ⟨ret_boolE (HF2.out.trans HBAD.out).symm, BH.out.trans (HB1.out.mono BH.out.size)⟩
              · have e7 : decide (t ≤ f) = false := decide_eq_false h7
                by_cases h8 : base < t
                · have e8 : decide (base < t) = true := decide_eq_true h8
                  have HBAD : Hid (isR base 0 0 0 es = false) := by
                    show _ = _
                    rw [HS.out, HGO.out]
                    rw [decide_eq_false (by omega), Bool.false_and]
                  go_wp2
                  go_ret
                  exact ⟨ret_boolE (HF2.out.trans HBAD.out).symm, BH.out.trans (HB1.out.mono BH.out.size)⟩
                · have e8 : decide (base < t) = false := decide_eq_false h8
                  by_cases h9 : 20000 - sz < t - f
                  · have e9 : decide (20000 - sz < t - f) = true := decide_eq_true h9
                    have HBAD : Hid (isR base 0 0 0 es = false) := by
                      show _ = _
                      rw [HS.out, HGO.out]
                      rw [decide_eq_false (by omega), Bool.false_and]
                    go_wp2
                    go_ret
                    exact ⟨ret_boolE (HF2.out.trans HBAD.out).symm, BH.out.trans (HB1.out.mono BH.out.size)⟩
                  · have e9 : decide (20000 - sz < t - f) = false := decide_eq_false h9
                    have HS2 : Hid (isR base 0 0 0 es = isR base t 2 (sz + (t - f)) (es.drop (k + 1))) := by
                      show _ = _
                      rw [HS.out, HGO.out, decide_eq_true (by omega), Bool.true_and]
                    go_wp2
                    go_roundw
                    case rel => exact ⟨k + 1, t, sz + (t - f), false, by omega, by go_num, rfl, rfl, by go_num, by omega, by omega, by omega, by omega, by show _ = _; rw [HKD.out]; rfl, by show _ = _; rw [HKD.out]; exact HS2.out, HB1.out⟩
                    case measure => simp [intOf]; omega
        · obtain ⟨n1, n2⟩ := size_of_ne (s := s) (by rw [hcs]; exact fun e => hT0 (List.eq_nil_of_length_eq_zero e))
          have HGO : Hid (isR base en 2 sz (es.drop k) = ((decide (f = 0 ∧ t = 0 ∧ 2 ≠ 1 ∧ (T.length : Int) ≤ 20000 - sz) && vld T) && isR base en 1 (sz + T.length) (es.drop (k + 1)))) := ri_ins HR.out hT0
          have HKD : Hid (kdo es (k + 1) = 1) := kdo_text HR.out hT0
          clear hT0
          generalize hTl : T.length = Tl at *
          by_cases h1 : f ≠ 0
          · have e1 : (f != 0) = true := by simpa using h1
            have e1b : (f == 0) = false := by simpa using h1
            have e1c : decide (f = 0) = false := by simpa using h1
            have HBAD : Hid (isR base 0 0 0 es = false) := by
              show _ = _
              rw [HS.out, HGO.out]
              rw [decide_eq_false (by omega), Bool.false_and, Bool.false_and]
            go_wp2
            go_ret
            exact ⟨ret_boolE (HF2.out.trans HBAD.out).symm, BH.out.trans (HB1.out.mono BH.out.size)⟩
          · obtain rfl : f = 0 := by omega
            by_cases h2 : t ≠ 0
            · have e2 : (t != 0) = true := by simpa using h2
              have e2b : (t == 0) = false := by simpa using h2
              have e2c : decide (t = 0) = false := by simpa using h2
              have HBAD : Hid (isR base 0 0 0 es = false) := by
                show _ = _
                rw [HS.out, HGO.out]
                rw [decide_eq_false (by omega), Bool.false_and, Bool.false_and]
              go_wp2
              go_ret
              exact ⟨ret_boolE (HF2.out.trans HBAD.out).symm, BH.out.trans (HB1.out.mono BH.out.size)⟩
            · obtain rfl : t = 0 := by omega
              by_cases h4 : 20000 - sz < (s.size : Int)
              · have e4 : decide (20000 - sz < (s.size : Int)) = true := decide_eq_true h4
                have HBAD : Hid (isR base 0 0 0 es = false) := by
                  show _ = _
                  rw [HS.out, HGO.out]
                  rw [decide_eq_false (by omega), Bool.false_and, Bool.false_and]
                go_wp2
                go_ret
                exact ⟨ret_boolE (HF2.out.trans HBAD.out).symm, BH.out.trans (HB1.out.mono BH.out.size)⟩
              · have e4 : decide (20000 - sz < (s.size : Int)) = false := decide_eq_false h4
                cases hv : vld T with
                | false =>
                  rw [hv] at HVA
                  have HBAD : Hid (isR base 0 0 0 es = false) := by
                    show _ = _
                    rw [HS.out, HGO.out, hv, Bool.and_false, Bool.false_and]
                  go_wp2_with fail
                  refine (HVA.out _).mono ?_
                  rintro e w3 ⟨rfl, hw3⟩
                  go_wp2
                  go_ret
                  exact ⟨ret_boolE (HF2.out.trans HBAD.out).symm, BH.out.trans (HB1.out.mono BH.out.size)⟩
                | true =>
                  rw [hv] at HVA
                  have HS2 : Hid (isR base 0 0 0 es = isR base en 1 (sz + (s.size : Int)) (es.drop (k + 1))) := by
                    show _ = _
                    rw [HS.out, HGO.out, hv, decide_eq_true (by omega), hcs]
                    rfl
                  have rn0 := (Re.new wr (.int .i64 0) (.int .i64 0) (.string s)).c2
                  go_wp2_with fail
                  refine (HVA.out _).mono ?_
                  rintro e w3 ⟨rfl, hw3⟩
                  subst hw3
                  go_wp2
                  go_roundw
                  case rel => exact ⟨k + 1, en, sz + (s.size : Int), true, by omega, by go_num, rfl, rfl, by go_num, by omega, by omega, by omega, by omega, by show _ = _; rw [HKD.out]; rfl, by show _ = _; rw [HKD.out]; exact HS2.out, HB1.out⟩
                  case measure => simp [intOf]; omega
      · rw [hkd] at HTX HS
        obtain rfl : tx = true := HTX.out
        clear HTX
        have dk : decide (0 < (k : Int)) = true := decide_eq_true (by omega)
        by_cases hT0 : T = []
        · have hr := HR.out
          rw [hT0] at hr
          have HGO : Hid (isR base en 1 sz (es.drop k) = (decide (en ≤ f ∧ (1 = 2 → en < f) ∧ f < t ∧ t ≤ base ∧ t - f ≤ 20000 - sz) && isR base t 2 (sz + (t - f)) (es.drop (k + 1)))) := ri_copy hr
          have HKD : Hid (kdo es (k + 1) = 2) := kdo_copy hr
          have hs00 : s.size = 0 := by rw [hcs, hT0]; rfl
          clear hr hT0 hcs HVA
          obtain rfl := eq_of_size hs00
          clear hs00
          by_cases h5 : f < en
          · have e5 : decide (f < en) = true := decide_eq_true h5
            have HBAD : Hid (isR base 0 0 0 es = false) := by
              show _ = _
              rw [HS.out, HGO.out]
              rw [decide_eq_false (by omega), Bool.false_and]
            go_wp2
            go_ret
            exact ⟨ret_boolE (HF2.out.trans HBAD.out).symm, BH.out.trans (HB1.out.mono BH.out.size)⟩
          · have e5 : decide (f < en) = false := decide_eq_false h5
            by_cases h7 : t ≤ f
            · have e7 : decide (t ≤ f) = true := decide_eq_true h7
              have HBAD : Hid (isR base 0 0 0 es = false) := by
                show _ = _
                rw [HS.out, HGO.out]
                rw [decide_eq_false (by omega), Bool.false_and]
              go_wp2
              go_ret
              exact ⟨ret_boolE (HF2.out.trans HBAD.out).symm, BH.out.trans (HB1.out.mono BH.out.size)⟩
            · have e7 : decide (t ≤ f) = false := decide_eq_false h7
              by_cases h8 : base < t
              · have e8 : decide (base < t) = true := decide_eq_true h8
                have HBAD : Hid (isR base 0 0 0 es = false) := by
                  show _ = _
                  rw [HS.out, HGO.out]
                  rw [decide_eq_false (by omega), Bool.false_and]
                go_wp2
                go_ret
                exact ⟨ret_boolE (HF2.out.trans HBAD.out).symm, BH.out.trans (HB1.out.mono BH.out.size)⟩
              · have e8 : decide (base < t) = false := decide_eq_false h8
                by_cases h9 : 20000 - sz < t - f
                · have e9 : decide (20000 - sz < t - f) = true := decide_eq_true h9
                  have HBAD : Hid (isR base 0 0 0 es = false) := by
                    show _ = _
                    rw [HS.out, HGO.out]
                    rw [decide_eq_false (by omega), Bool.false_and]
                  go_wp2
                  go_ret
                  exact ⟨ret_boolE (HF2.out.trans HBAD.out).symm, BH.out.trans (HB1.out.mono BH.out.size)⟩
                · have e9 : decide (20000 - sz < t - f) = false := decide_eq_false h9
                  have HS2 : Hid (isR base 0 0 0 es = isR base t 2 (sz + (t - f)) (es.drop (k + 1))) := by
                    show _ = _
                    rw [HS.out, HGO.out, decide_eq_true (by omega), Bool.true_and]
                  go_wp2
                  go_roundw
                  case rel => exact ⟨k + 1, t, sz + (t - f), false, by omega, by go_num, rfl, rfl, by go_num, by omega, by omega, by omega, by omega, by show _ = _; rw [HKD.out]; rfl, by show _ = _; rw [HKD.out]; exact HS2.out, HB1.out⟩
                  case measure => simp [intOf]; omega
        · obtain ⟨n1, n2⟩ := size_of_ne (s := s) (by rw [hcs]; exact fun e => hT0 (List.eq_nil_of_length_eq_zero e))
          have HGO : Hid (isR base en 1 sz (es.drop k) = ((decide (f = 0 ∧ t = 0 ∧ 1 ≠ 1 ∧ (T.length : Int) ≤ 20000 - sz) && vld T) && isR base en 1 (sz + T.length) (es.drop (k + 1)))) := ri_ins HR.out hT0
          have HKD : Hid (kdo es (k + 1) = 1) := kdo_text HR.out hT0
          clear hT0
          generalize hTl : T.length = Tl at *
          by_cases h1 : f ≠ 0
          · have e1 : (f != 0) = true := by simpa using h1
            have e1b : (f == 0) = false := by simpa using h1
            have e1c : decide (f = 0) = false := by simpa using h1
            have HBAD : Hid (isR base 0 0 0 es = false) := by
              show _ = _
              rw [HS.out, HGO.out]
              rw [decide_eq_false (by omega), Bool.false_and, Bool.false_and]
            go_wp2
            go_ret
            exact ⟨ret_boolE (HF2.out.trans HBAD.out).symm, BH.out.trans (HB1.out.mono BH.out.size)⟩
          · obtain rfl : f = 0 := by omega
            by_cases h2 : t ≠ 0
            · have e2 : (t != 0) = true := by simpa using h2
              have e2b : (t == 0) = false := by simpa using h2
              have e2c : decide (t = 0) = false := by simpa using h2
              have HBAD : Hid (isR base 0 0 0 es = false) := by
                show _ = _
                rw [HS.out, HGO.out]
                rw [decide_eq_false (by omega), Bool.false_and, Bool.false_and]
              go_wp2
              go_ret
              exact ⟨ret_boolE (HF2.out.trans HBAD.out).symm, BH.out.trans (HB1.out.mono BH.out.size)⟩
            · obtain rfl : t = 0 := by omega
              have HBAD : Hid (isR base 0 0 0 es = false) := by
                show _ = _
                rw [HS.out, HGO.out]
                rw [decide_eq_false (by omega), Bool.false_and, Bool.false_and]
              go_wp2
              go_ret
              exact ⟨ret_boolE (HF2.out.trans HBAD.out).symm, BH.out.trans (HB1.out.mono BH.out.size)⟩
    · obtain rfl : k = es.length := by omega
      have HG : Hid (isR base 0 0 0 es = true) := by
        show _ = _
        rw [HS.out, List.drop_length]; rfl
      go_wp2
      go_ret
      exact ⟨ret_boolE (HF2.out.trans HG.out).symm, BH.out.trans (hb.mono BH.out.size)⟩
end Go.Proofs.YtafhogfbjklboaaDoor
