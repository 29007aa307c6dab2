/- The reference's Back, Interval. -/
import Derived.Test.YtelpinngimohoaaDoorOffRef
namespace Go.Proofs.YtelpinngimohoaaDoor
open Go.RowKit Go.Sort
set_option linter.unusedSimpArgs false
set_option linter.unusedVariables false

set_option maxHeartbeats 4000000 in
set_option maxRecDepth 100000 in
theorem rback_any {w : World} {v : Value} {es : List El} (base at' : Int) (h : ElAt w v es) (hsm : Sm es 281474976710656) :
    Calls Tryd.prog 15 #[.agg #[.int .i64 base, v], .int .i64 at'] w fun e w' => e = .returned (.int .i64 (bkV base es at')) ∧ Below w.heap.size w w' := by
  have HV := Hid.mk7 (h.alloc (.cells #[.int .i64 base, v] 24))
  obtain ⟨a, cap, rfl, _⟩ := id h
  have BB := Hid.mk7 (below_newE (Below.refl w.heap.size w) (.cells #[.int .i64 base, .slice a es.length cap] 24))
  have RDH := Hid.mk7 (Rd.new w (.int .i64 base) (.slice a es.length cap))
  have HIS := Hid.mk7 (ris_any base HV.out (hsm.mono (by decide)))
  clear h hsm
  have r0 := RDH.out.c0
  have r1 := RDH.out.c1
  by_cases hi : isB base es = true
  · rw [hi] at HIS
    have hd := dl_of hi
    have HD := Hid.mk7 hd
    have hcl := (cel_len14 hi).2
    have HCI := Hid.mk7 (cel_in14 hi)
    obtain ⟨m, hm⟩ : ∃ m : Nat, (max at' 0).toNat = m := ⟨_, rfl⟩
    have hmv : bkV base es at' = bkC base (cel es) m := by unfold bkV; rw [if_pos hi, hm]
    have hmax : (if 0 < at' then at' else 0) = (m : Int) := by rw [← hm, Int.max_def]; repeat' split <;> omega
    rw [hmv]
    obtain ⟨rv, hrv⟩ : ∃ rv, bkC base (cel es) m = rv := ⟨_, rfl⟩
    rw [hrv]
    have HRV := Hid.mk7 hrv
    have HMAX := Hid.mk7 hmax
    have HCELL := Hid.mk7 (fun W (b : Below (w.alloc (.cells #[.int .i64 base, .slice a es.length cap] 24)).heap.size (w.alloc (.cells #[.int .i64 base, .slice a es.length cap] 24)) W) => rcells_any base (HV.out.later b) hd)
    generalize cel es = cs at *
    clear hi hd hmv hmax hm HD hrv
    go_enter Tryd.func15, Tryd.ntmps15
    go_wp2_with fail
    refine HIS.out.mono ?_
    rintro e w1 ⟨rfl, b1⟩
    have HC1 := HCELL.out w1 b1
    have RD1 := Hid.mk7 (RDH.out.later b1)
    have BB1 := Hid.mk7 (BB.out.trans (b1.mono BB.out.size))
    clear r0 r1 HIS b1 HV RDH BB HCELL
    have r0 := RD1.out.c0
    have r1 := RD1.out.c1
    go_wp2_with fail
    refine HC1.mono ?_
    rintro e w2 ⟨v2, rfl, hk2, b2⟩
    obtain ⟨a2, cap2, rfl, hcap2, hcells⟩ := hk2.row
    have HC := Hid.mk7 hcells
    have RD2 := Hid.mk7 (RD1.out.later b2)
    have BB2 := Hid.mk7 (BB1.out.trans (b2.mono BB1.out.size))
    clear r0 r1 HC1 b2 RD1 BB1 hk2 hcells
    have r0 := RD2.out.c0
    go_upto_region 5 with fail
    rw [HMAX.out]
    clear HMAX
    by_cases hmc : m < cs.length
    · have hmc2 : decide ((cs.length : Int) ≤ (m : Int)) = false := decide_eq_false (by omega)
      have hmc3 : decide (cs.length ≤ m) = false := decide_eq_false (by omega)
      obtain ⟨⟨xm, bm⟩, hrm⟩ : ∃ r, cs[m]? = some r := ⟨cs[m], List.getElem?_eq_getElem hmc⟩
      have HBC : Hid (rv = if 0 ≤ xm then xm else lastK (cs.take m)) := by show _ = _; rw [← HRV.out]; unfold bkC; rw [hrm]
      clear HRV
      have HRM := Hid.mk7 hrm
      clear hrm
      go_wp2
      go_loopw [7] (fun iv wr => ∃ k : Nat, k ≤ m + 1 ∧ iv = .int .i64 ((k : Int) - 1) ∧ Hid (k = m + 1 ∨ (k ≤ m ∧ xm < 0 ∧ lastK (cs.take m) = lastK (cs.take k))) ∧ Hid (Below w.heap.size w wr) ∧ Hid (∀ i c, cs[i]? = some c → ∃ g off, a2 = some ⟨g, off, none⟩ ∧ wr.cell? ⟨g, off + i * 2, none⟩ = some (.int .i64 c.1) ∧ wr.cell? ⟨g, off + i * 2 + 1, none⟩ = some (.int .u8 (c.2.toNat : Int)))) (fun iv _ => (intOf iv + 1).toNat)
      case atStart => exact ⟨m + 1, Nat.le_refl _, by simp, Or.inl rfl, BB2, HC⟩
      case round =>
        obtain ⟨k, hk, rfl, HK, HB, HCJ⟩ := hrel
        clear HC BB2 RD2 r0
        cases k with
        | zero =>
          have HE : Hid (rv = 0) := by
            show _ = _
            rcases HK.out with h | ⟨_, h1, h2⟩
            · omega
            · rw [HBC.out, if_neg (by omega), h2]; rfl
          go_wp2
          go_ret
          exact ⟨ret_intE HE.out.symm, HB.out⟩
        | succ j =>
          have hji : ((j + 1 : Nat) : Int) - 1 = (j : Int) := by omega
          rw [hji]
          have hjl : j < cs.length := by omega
          obtain ⟨⟨x, b⟩, hr⟩ : ∃ r, cs[j]? = some r := ⟨cs[j], List.getElem?_eq_getElem hjl⟩
          obtain ⟨g, off, rfl, q0, q1⟩ := HCJ.out j _ hr
          simp only at q0 q1
          have HS := Hid.mk7 (lastK_snoc hr)
          have hx := HCI.out _ (List.mem_of_getElem? hr)
          simp only at hx
          have HR := Hid.mk7 hr
          clear hr q1 hji
          by_cases h1 : 0 ≤ x
          · have d1 : decide (0 ≤ x) = true := decide_eq_true h1
            by_cases h2 : j = m
            · subst h2
              have d2 : ((j : Int) == (j : Int)) = true := by simp
              have HE : Hid (rv = x) := by
                show _ = _
                have e := HRM.out
                rw [HR.out] at e
                cases e
                rw [HBC.out, if_pos h1]
              clear HS HK
              go_wp2
              go_ret
              exact ⟨ret_intE HE.out.symm, HB.out⟩
            · have d2 : ((j : Int) == (m : Int)) = false := by simp; omega
              have HE : Hid (rv = x + 1) := by
                show _ = _
                rcases HK.out with h | ⟨_, h3, h4⟩
                · omega
                · rw [HBC.out, if_neg (by omega), h4, HS.out, if_pos h1]
              clear HS HK h2
              go_wp2
              go_ret
              exact ⟨ret_intE HE.out.symm, HB.out⟩
          · have d1 : decide (0 ≤ x) = false := decide_eq_false h1
            have HK2 : Hid (j = m + 1 ∨ (j ≤ m ∧ xm < 0 ∧ lastK (cs.take m) = lastK (cs.take j))) := by
              refine Or.inr ⟨by omega, ?_⟩
              rcases HK.out with h | ⟨_, h3, h4⟩
              · obtain rfl : j = m := by omega
                have e := HRM.out
                rw [HR.out] at e
                cases e
                exact ⟨Int.not_le.1 h1, rfl⟩
              · refine ⟨h3, ?_⟩
                rw [h4, HS.out, if_neg h1]
            clear HS HK
            go_wp2
            go_roundw
            case rel => exact ⟨j, by omega, rfl, HK2, HB, HCJ⟩
            case measure => simp [intOf]
    · have hmc2 : decide ((cs.length : Int) ≤ (m : Int)) = true := decide_eq_true (by omega)
      have hmc3 : decide (cs.length ≤ m) = true := decide_eq_true (by omega)
      have HE : Hid (rv = base) := by show _ = _; rw [← HRV.out]; unfold bkC; rw [List.getElem?_eq_none (by omega)]
      go_wp2
      go_ret
      exact ⟨ret_intE HE.out.symm, BB2.out⟩
  · have hi' : isB base es = false := by simpa using hi
    rw [hi'] at HIS
    have hmv : bkV base es at' = 0 := by unfold bkV; rw [if_neg (by simpa using hi')]
    rw [hmv]
    go_enter Tryd.func15, Tryd.ntmps15
    go_wp2_with fail
    refine HIS.out.mono ?_
    rintro e w1 ⟨rfl, b1⟩
    go_wp2
    go_ret
    exact ⟨rfl, BB.out.trans (b1.mono BB.out.size)⟩
theorem mvV_no {base : Int} {es : List El} {at' : Int} {after : Bool} (hi : isB base es = false) : mvV base es at' after = 0 := by unfold mvV; rw [if_neg (by simp [hi])]
set_option maxHeartbeats 4000000 in
set_option maxRecDepth 100000 in
theorem rinterval_any {w : World} {v : Value} {es : List El} (base f t : Int) (h : ElAt w v es) (hsm : Sm es 281474976710656) :
    Calls Tryd.prog 18 #[.agg #[.int .i64 base, v], .agg #[.int .i64 f, .int .i64 t]] w fun e w' => e = .returned (.agg #[.int .i64 (mvV base es f true), .int .i64 (max (mvV base es f true) (mvV base es t false))]) ∧ Below w.heap.size w w' := by
  obtain ⟨a, cap, rfl, _⟩ := id h
  obtain ⟨W1, hW1⟩ : ∃ W1, W1 = w.alloc (.cells #[.int .i64 base, .slice a es.length cap] 24) := ⟨_, rfl⟩
  obtain ⟨W2, hW2⟩ : ∃ W2, W2 = W1.alloc (.cells #[.int .i64 f, .int .i64 t] 26) := ⟨_, rfl⟩
  obtain ⟨W3, hW3⟩ : ∃ W3, W3 = W2.alloc (.cells #[.int .i64 0, .int .i64 0] 26) := ⟨_, rfl⟩
  have s1 : W1.heap.size = w.heap.size + 1 := by rw [hW1]; simp
  have s2 : W2.heap.size = w.heap.size + 1 + 1 := by rw [hW2]; simp [s1]
  have b1 : Below w.heap.size w W1 := by rw [hW1]; exact below_newE (Below.refl _ _) _
  have b2 : Below w.heap.size w W2 := by rw [hW2]; exact b1.alloc b1.size _
  have b3 : Below w.heap.size w W3 := by rw [hW3]; exact b2.alloc b2.size _
  have d1 : Rd W1 w.heap.size (.int .i64 base) (.slice a es.length cap) := by rw [hW1]; exact Rd.new w _ _
  have d3 : Rd W3 w.heap.size (.int .i64 base) (.slice a es.length cap) := by rw [hW3, hW2]; exact (d1.alloc _).alloc _
  have v2 : Rv W2 (w.heap.size + 1) (.int .i64 f) (.int .i64 t) := by rw [hW2]; exact Rv.new' s1.symm _ _
  have v3 : Rv W3 (w.heap.size + 1) (.int .i64 f) (.int .i64 t) := by rw [hW3]; exact v2.alloc _
  have z3 : Rv W3 (w.heap.size + 1 + 1) (.int .i64 0) (.int .i64 0) := by rw [hW3]; exact Rv.new' s2.symm _ _
  have HV := Hid.mk7 (h.later b3)
  have HIS := Hid.mk7 (ris_any base HV.out (hsm.mono (by decide)))
  have D3 := Hid.mk7 d3
  have V3 := Hid.mk7 v3
  have Z3 := Hid.mk7 z3
  have B3 := Hid.mk7 b3
  have r0 := d3.c0
  have r1 := d3.c1
  obtain ⟨A, hA⟩ : ∃ A, mvV base es f true = A := ⟨_, rfl⟩
  obtain ⟨B, hB⟩ : ∃ B, mvV base es t false = B := ⟨_, rfl⟩
  have HRA := Hid.mk7 (fun W (hv : ElAt W (.slice a es.length cap) es) => hA ▸ rmove_any base f true hv hsm)
  have HRB := Hid.mk7 (fun W (hv : ElAt W (.slice a es.length cap) es) => hB ▸ rmove_any base t false hv hsm)
  have HA := Hid.mk7 hA
  have HB := Hid.mk7 hB
  rw [hA, hB]
  clear s1 s2 b1 b2 b3 d1 d3 v2 v3 z3 h hA hB
  go_enter Tryd.func18, Tryd.ntmps18
  go_upto_region 1 with fail
  rw [← hW1, ← hW2, ← hW3]
  clear hW1 hW2 hW3
  go_wp2_with fail
  refine HIS.out.mono ?_
  rintro e w4 ⟨rfl, b4⟩
  have HV4 := Hid.mk7 (HV.out.later b4)
  have D4 := Hid.mk7 (D3.out.later b4)
  have V4 := Hid.mk7 (V3.out.later b4)
  have Z4 := Hid.mk7 (Z3.out.later b4)
  have B4 := Hid.mk7 (B3.out.trans (b4.mono B3.out.size))
  clear r0 r1 D3 V3 Z3 B3 HIS b4 HV
  by_cases hi : isB base es = true
  · have HMT := Hid.mk7 (fun d os => Calls.regrown_of (HRA.out _ (HV4.out.later (below_regrown w4 d os))))
    have HMF := Hid.mk7 (fun d os => Calls.regrown_of (HRB.out _ (HV4.out.later (below_regrown w4 d os))))
    clear HRA HRB HA HB
    rw [hi]
    clear hi
    have q0 := cell_regrown D4.out.c0
    have q1 := cell_regrown D4.out.c1
    have q2 := cell_regrown V4.out.c0
    have q3 := cell_regrown V4.out.c1
    go_wp2_with fail
    refine wp_region_quiet_below (by kernel_rfl) (by kernel_rfl) ?_
    repeat (go_big_quiet_step (first | (go_at_call_of 13 (Value.bool true); exact HMT.out _ _) | (go_at_call 13; exact HMF.out _ _)))
    refine wpQuiet_nil ?_
    intro _ hw'
    obtain ⟨⟨dq, osq⟩, hw''⟩ := hw'
    subst hw''
    have bz := below_regrown w4 dq osq
    have Z5 := Hid.mk7 (Z4.out.later bz)
    have B5 := Hid.mk7 (B4.out.trans (bz.mono B4.out.size))
    clear bz q0 q1 q2 q3 HMT HMF HV4 D4 V4 Z4 B4
    generalize grow (redrawn w4 dq) osq = w5 at *
    have fz := Z5.out.fz
    have z0 := Z5.out.c0
    have z1 := Z5.out.c1
    have hlt := Z5.out.lt
    go_wp2
    all_goals
      refine bodyPost_ret (results_iv rfl _ _ (w.heap.size + 1 + 1) _ _ rfl (Z5.out.set _ _)) rfl ?_
      exact ⟨ret_iv14 rfl (by omega), below_set2 B5.out (by omega) _ _⟩
  · have hi' : isB base es = false := by simpa using hi
    have hA := HA.out
    have hB := HB.out
    rw [mvV_no hi'] at hA hB
    subst hA hB
    rw [hi']
    clear HRA HRB HA HB
    have fz := Z4.out.fz
    have z0 := Z4.out.c0
    have z1 := Z4.out.c1
    have hlt := Z4.out.lt
    go_wp2
    refine bodyPost_ret (results_iv rfl _ _ (w.heap.size + 1 + 1) _ _ rfl (Z4.out.set _ _)) rfl ?_
    exact ⟨ret_iv14 rfl (by decide), below_set2 B4.out (by omega) _ _⟩
end Go.Proofs.YtelpinngimohoaaDoor
