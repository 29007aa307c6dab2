/- The reference's Build. -/
import Derived.Test.YtpfkidcaolfcoaaDoorDelRefTold
import Derived.Test.YtpfkidcaolfcoaaDoorDelRefMade
import Derived.Test.YtpfkidcaolfcoaaDoorDelRefOrd
namespace Go.Proofs.YtpfkidcaolfcoaaDoor
open Go.RowKit Go.Sort Go.Lib
set_option linter.unusedSimpArgs false
set_option linter.unusedVariables false

theorem bce_one {base : Int} (hb : base ≤ 20000) : ∀ (l : List El) (a : Int), 0 ≤ a → Chs base a l → ∀ c ∈ bce base a l, c.1 = -1 ∨ (0 ≤ c.1 ∧ c.1 ≤ 20000 ∧ c.2 = 0)
  | [], a, ha, h => by
    intro c hc
    unfold bce rng at hc
    obtain ⟨i, hi, rfl⟩ := List.mem_map.1 hc
    have := List.mem_range.1 hi
    exact Or.inr ⟨by simp only; omega, by simp only; omega, rfl⟩
  | (f, t, T) :: l, a, ha, h => by
    obtain ⟨h1, h2, h3, h4⟩ := h
    intro c hc
    unfold bce at hc
    rcases List.mem_append.1 hc with hc | hc
    · rcases List.mem_append.1 hc with hc | hc
      · unfold rng at hc
        obtain ⟨i, hi, rfl⟩ := List.mem_map.1 hc
        have := List.mem_range.1 hi
        exact Or.inr ⟨by simp only; omega, by simp only; omega, rfl⟩
      · obtain ⟨b, _, rfl⟩ := List.mem_map.1 hc
        exact Or.inl rfl
    · exact bce_one hb l t (by omega) h4 c hc
theorem cel_mem : ∀ (es : List El) (e : El), e ∈ es → e.2.2.length ≤ (cel es).length
  | x :: es, e, h => by
    rw [cel_cons, List.length_append]
    unfold ce1
    rw [List.length_append, own_len]
    rcases List.mem_cons.1 h with rfl | h
    · omega
    · have := cel_mem es e h; omega
theorem sz8_le {base : Int} : ∀ (l : List El), wthB base l = true → sz8 base l ≤ base + (inS l : Int)
  | [], _ => by simp [sz8, inS]
  | e :: l, h => by
    rw [show wthB base (e :: l) = (wthE base e && wthB base l) from rfl, Bool.and_eq_true] at h
    have ih := sz8_le l h.2
    have h1 := of_decide_eq_true h.1
    simp only [sz8, inS, List.map_cons, List.sum_cons] at *
    omega
theorem cw_bce {base : Int} {l : List El} (h : flt base l = 0) : Cw (bce base 0 l) := by
  have g := gd_of h
  have hsz := bce_size l 0 g.ch
  rw [Int.sub_zero] at hsz
  have hs := g.sz
  refine ⟨bce_one g.b0.2 l 0 (Int.le_refl _) g.ch, by omega, ?_⟩
  rw [← elG_tld g.ch]
  intro e he
  refine ⟨vld_elG l [] 0 vld_nil (fun e he => List.all_eq_true.1 g.vl e he) e he, ?_⟩
  have h1 := cel_mem _ e he
  rw [cel_elG l [] 0 g.ch] at h1
  simp only [List.length_append, own_len, List.length_nil] at h1
  omega
/-- What Build answers. -/
def BldR (base : Int) (l : List El) (e : Ending) (w' : World) : Prop :=
  if flt base l ≠ 0 then e = .returned (.tuple #[.agg #[.int .i64 0, .slice none 0 0], .int .i64 (flt base l)])
  else if 60 < (elG base [] 0 l).length then e = .returned (.tuple #[.agg #[.int .i64 0, .slice none 0 0], .int .i64 70])
  else ∃ v', e = .returned (.tuple #[.agg #[.int .i64 base, v'], .int .i64 0]) ∧ ElAt w' v' (elG base [] 0 l)
set_option maxHeartbeats 16000000 in
set_option maxRecDepth 100000 in
theorem rbuild_any {w : World} {v : Value} {l : List El} (base : Int) (h : ElAt w v l) (hdom : base ≤ 400 ∨ 20000 < base) (hsm : Sm l 100) (hl : l.length ≤ 50) (hin : inS l ≤ 5000) :
    Calls Tryd.prog 23 #[.int .i64 base, v] w fun e w' => BldR base l e w' ∧ RowKit.Below w.heap.size w w' := by
  have HV := Hid.mk7 (h.alloc (.cells #[.int .i64 0, .slice none 0 0] 24))
  obtain ⟨a, cap, rfl, _⟩ := id h
  have BB := Hid.mk7 (below_newE (RowKit.Below.refl w.heap.size w) (.cells #[.int .i64 0, .slice none 0 0] 24))
  have RA := Hid.mk7 (Rd.new w (.int .i64 0) (.slice none 0 0))
  have hw0 : w.heap.size < (w.alloc (.cells #[.int .i64 0, .slice none 0 0] 24)).heap.size := by simp
  obtain ⟨_, _, ee, _, _, hcells⟩ := id HV.out
  cases ee
  have HC := Hid.mk7 hcells
  have HSM := Hid.mk7 hsm
  clear hcells h hsm
  by_cases hb : 0 ≤ base ∧ base ≤ 20000
  case neg =>
    have HF : Hid (flt base l = 10) := by show _ = _; unfold flt; rw [decide_eq_false hb]; rfl
    have ra0 := RA.out.c0
    have ra1 := RA.out.c1
    have fz := RA.out.fz
    have rlt := RA.out.lt
    clear HV HC
    rcases (show base < 0 ∨ (0 ≤ base ∧ 20000 < base) from by omega) with h1 | ⟨h1, h2⟩
    · have d1 : decide (base < 0) = true := decide_eq_true h1
      go_enter Tryd.func23, Tryd.ntmps23
      go_wp2
      refine bodyPost_ret (results_del2 rfl _ _ w.heap.size _ _ _ rfl rfl RA.out) rfl ?_
      refine ⟨?_, BB.out⟩
      unfold BldR
      rw [HF.out, if_pos (by decide)]
      rfl
    · have d1 : decide (base < 0) = false := decide_eq_false (by omega)
      have d2 : decide (20000 < base) = true := decide_eq_true h2
      go_enter Tryd.func23, Tryd.ntmps23
      go_wp2
      refine bodyPost_ret (results_del2 rfl _ _ w.heap.size _ _ _ rfl rfl RA.out) rfl ?_
      refine ⟨?_, BB.out⟩
      unfold BldR
      rw [HF.out, if_pos (by decide)]
      rfl
  have hb4 : base ≤ 400 := by omega
  have d1 : decide (base < 0) = false := decide_eq_false (by omega)
  have d2 : decide (20000 < base) = false := decide_eq_false (by omega)
  go_enter Tryd.func23, Tryd.ntmps23
  go_wp2_with fail
  generalize w.alloc (.cells #[.int .i64 0, .slice none 0 0] 24) = W0 at *
  go_wp2
  go_loopw [6] (fun iv wr => ∃ k : Nat, k ≤ l.length ∧ iv = .int .i64 (k : Nat) ∧ Hid ((l.take k).all (wthE base) = true) ∧ RowKit.Below W0.heap.size W0 wr) (fun iv _ => l.length - (intOf iv).toNat)
  case atStart => exact ⟨0, Nat.zero_le _, rfl, Hid.mk7 rfl, RowKit.Below.refl _ _⟩
  case round =>
    obtain ⟨k, hk, rfl, HA, hbl⟩ := hrel
    by_cases hlt : k < l.length
    · obtain ⟨⟨f, t, T⟩, hr⟩ : ∃ r, l[k]? = some r := ⟨l[k], List.getElem?_eq_getElem hlt⟩
      obtain ⟨g, off, rfl, q0, q1, q2⟩ := HC.out k _ hr
      have c0 := cell_later7 hbl (Nat.le_refl _) q0
      have c1 := cell_later7 hbl (Nat.le_refl _) q1
      simp only at c0 c1
      have HT := Hid.mk7 (all_take (p := wthE base) hr)
      have HBAD := Hid.mk7 (all_bad (p := wthE base) hr)
      clear q0 q1 q2 hr
      by_cases hgood : 0 ≤ f ∧ f ≤ t ∧ t ≤ base
      · have e1 : decide (f < 0) = false := decide_eq_false (by omega)
        have e2 : decide (t < f) = false := decide_eq_false (by omega)
        have e3 : decide (base < t) = false := decide_eq_false (by omega)
        have HA2 : Hid ((l.take (k + 1)).all (wthE base) = true) := by
          show _ = _
          rw [HT.out, HA.out, Bool.true_and]
          unfold wthE
          exact decide_eq_true hgood
        go_wp2
        go_quiet (fail)
        go_wp2
        go_roundw
        case rel => exact ⟨k + 1, by omega, by go_num, HA2, below_drewN hbl nq⟩
        case measure => simp [intOf]; omega
      · have HF : Hid (flt base l = 10) := by
          have h9 : wthB base l = false := HBAD.out (by unfold wthE; exact decide_eq_false hgood)
          show _ = _
          unfold flt
          rw [h9, Bool.and_false]
          rfl
        by_cases e1 : f < 0
        · have e1 : decide (f < 0) = true := decide_eq_true e1
          go_wp2
          go_quiet (fail)
          have bq := below_drewN hbl nq
          generalize wr.drewN nq = W at *
          have RA2 := Hid.mk7 (RA.out.later bq)
          have BB2 := Hid.mk7 (BB.out.trans (bq.mono BB.out.size))
          have ra0 := RA2.out.c0
          have ra1 := RA2.out.c1
          have fz := RA2.out.fz
          have rlt := RA2.out.lt
          go_wp2
          refine bodyPost_ret (results_del2 rfl _ _ w.heap.size _ _ _ rfl rfl (RA2.out.set _ _)) rfl ?_
          refine ⟨?_, below_set2 BB2.out (Nat.le_refl _) _ _⟩
          unfold BldR
          rw [HF.out, if_pos (by decide)]
          rfl
        · have e1 : decide (f < 0) = false := decide_eq_false e1
          by_cases e2 : t < f
          · have e2 : decide (t < f) = true := decide_eq_true e2
            go_wp2
            go_quiet (fail)
            have bq := below_drewN hbl nq
            generalize wr.drewN nq = W at *
            have RA2 := Hid.mk7 (RA.out.later bq)
            have BB2 := Hid.mk7 (BB.out.trans (bq.mono BB.out.size))
            have ra0 := RA2.out.c0
            have ra1 := RA2.out.c1
            have fz := RA2.out.fz
            have rlt := RA2.out.lt
            go_wp2
            refine bodyPost_ret (results_del2 rfl _ _ w.heap.size _ _ _ rfl rfl (RA2.out.set _ _)) rfl ?_
            refine ⟨?_, below_set2 BB2.out (Nat.le_refl _) _ _⟩
            unfold BldR
            rw [HF.out, if_pos (by decide)]
            rfl
          · have e2 : decide (t < f) = false := decide_eq_false e2
            have e3 : decide (base < t) = true := decide_eq_true (by omega)
            go_wp2
            go_quiet (fail)
            have bq := below_drewN hbl nq
            generalize wr.drewN nq = W at *
            have RA2 := Hid.mk7 (RA.out.later bq)
            have BB2 := Hid.mk7 (BB.out.trans (bq.mono BB.out.size))
            have ra0 := RA2.out.c0
            have ra1 := RA2.out.c1
            have fz := RA2.out.fz
            have rlt := RA2.out.lt
            go_wp2
            refine bodyPost_ret (results_del2 rfl _ _ w.heap.size _ _ _ rfl rfl (RA2.out.set _ _)) rfl ?_
            refine ⟨?_, below_set2 BB2.out (Nat.le_refl _) _ _⟩
            unfold BldR
            rw [HF.out, if_pos (by decide)]
            rfl
    · obtain rfl : k = l.length := by omega
      have hwt : wthB base l = true := by have := HA.out; rw [List.take_length] at this; exact this
      have HWT := Hid.mk7 hwt
      have HSZ := Hid.mk7 (sz8_le l hwt)
      have HO := Hid.mk7 (rordered_any (HV.out.later hbl) (by omega) (fun e he => (of_decide_eq_true (List.all_eq_true.1 hwt e he)).2.1))
      have RA1 := Hid.mk7 (RA.out.later hbl)
      have BB1 := Hid.mk7 (BB.out.trans (hbl.mono BB.out.size))
      have HV1 := Hid.mk7 (HV.out.later hbl)
      clear hwt HA RA BB HV
      by_cases h2 : ordB l = true
      case neg =>
        have h2' : ordB l = false := by simpa using h2
        rw [h2'] at HO
        have HF : Hid (flt base l = 180) := by
          show _ = _
          unfold flt
          rw [decide_eq_true hb, HWT.out, h2']
          rfl
        go_wp2_with fail
        refine HO.out.mono ?_
        rintro e w2 ⟨rfl, b2⟩
        have RA2 := Hid.mk7 (RA1.out.later b2)
        have BB2 := Hid.mk7 (BB1.out.trans (b2.mono BB1.out.size))
        have ra0 := RA2.out.c0
        have ra1 := RA2.out.c1
        have fz := RA2.out.fz
        have rlt := RA2.out.lt
        go_wp2
        refine bodyPost_ret (results_del2 rfl _ _ w.heap.size _ _ _ rfl rfl (RA2.out.set _ _)) rfl ?_
        refine ⟨?_, below_set2 BB2.out (Nat.le_refl _) _ _⟩
        unfold BldR
        rw [HF.out, if_pos (by decide)]
        rfl
      rw [h2] at HO
      go_wp2_with fail
      refine HO.out.mono ?_
      rintro e w2 ⟨rfl, b2⟩
      have RA2 := Hid.mk7 (RA1.out.later b2)
      have BB2 := Hid.mk7 (BB1.out.trans (b2.mono BB1.out.size))
      have HV2 := Hid.mk7 (HV1.out.later b2)
      clear RA1 BB1 HV1 b2 HO
      obtain ⟨_, _, ee, _, _, hcells⟩ := id HV2.out
      cases ee
      have HC2 := Hid.mk7 hcells
      clear hcells HC
      go_wp2
      go_loopw [7] (fun iv wx => ∃ k : Nat, k ≤ l.length ∧ iv = .int .i64 (k : Nat) ∧ Hid ((l.take k).all (fun e => vld e.2.2) = true) ∧ RowKit.Below w2.heap.size w2 wx) (fun iv _ => l.length - (intOf iv).toNat)
      case atStart => exact ⟨0, Nat.zero_le _, rfl, Hid.mk7 rfl, RowKit.Below.refl _ _⟩
      case round =>
        obtain ⟨k, hk, rfl, HA, hbx⟩ := hrel
        have RA3 := Hid.mk7 (RA2.out.later hbx)
        have BB3 := Hid.mk7 (BB2.out.trans (hbx.mono BB2.out.size))
        by_cases hlt : k < l.length
        · obtain ⟨⟨f, t, T⟩, hr⟩ : ∃ r, l[k]? = some r := ⟨l[k], List.getElem?_eq_getElem hlt⟩
          obtain ⟨g, off, rfl, _, _, q2⟩ := HC2.out k _ hr
          have c2 := cell_later7 hbx (Nat.le_refl _) q2
          simp only at c2
          have HT := Hid.mk7 (all_take (p := fun e : El => vld e.2.2) hr)
          have HBAD := Hid.mk7 (all_bad (p := fun e : El => vld e.2.2) hr)
          have hT1 := HSM.out _ (List.mem_of_getElem? hr)
          simp only at hT1
          have HVD := Hid.mk7 (fun W => refvalid_any (cacc T) W (by rw [cacc_size]; unfold maxLen; omega))
          rw [cacc_toList] at HVD
          clear q2 hr
          generalize cacc T = s at *
          by_cases hv : vld T = true
          · rw [hv] at HVD
            have HA2 : Hid ((l.take (k + 1)).all (fun e => vld e.2.2) = true) := by show _ = _; rw [HT.out, HA.out, Bool.true_and]; exact hv
            go_wp2_with fail
            refine (HVD.out _).mono ?_
            rintro e w4 ⟨rfl, rfl⟩
            go_wp2
            go_roundw
            case rel => exact ⟨k + 1, by omega, by go_num, HA2, hbx⟩
            case measure => simp [intOf]; omega
          · have hv' : vld T = false := by simpa using hv
            rw [hv'] at HVD
            have HF : Hid (flt base l = 12) := by
              have h9 : vldB l = false := HBAD.out hv'
              show _ = _
              unfold flt
              rw [decide_eq_true hb, HWT.out, h2, h9]
              rfl
            have ra0 := RA3.out.c0
            have ra1 := RA3.out.c1
            have fz := RA3.out.fz
            have rlt := RA3.out.lt
            go_wp2_with fail
            refine (HVD.out _).mono ?_
            rintro e w4 ⟨rfl, rfl⟩
            go_wp2
            refine bodyPost_ret (results_del2 rfl _ _ w.heap.size _ _ _ rfl rfl (RA3.out.set _ _)) rfl ?_
            refine ⟨?_, below_set2 BB3.out (Nat.le_refl _) _ _⟩
            unfold BldR
            rw [HF.out, if_pos (by decide)]
            rfl
        · obtain rfl : k = l.length := by omega
          have h3 : vldB l = true := by have := HA.out; rw [List.take_length] at this; exact this
          have HF0 : Hid (flt base l = 0) := by
            have h5 := HSZ.out
            show _ = _
            unfold flt
            rw [decide_eq_true hb, HWT.out, h2, h3, if_neg (by decide), if_neg (by decide), if_neg (by decide), if_neg (by omega)]
          have hg := gd_of HF0.out
          have HCW := Hid.mk7 (cw_bce HF0.out)
          have HM := Hid.mk7 (rmade_any base (HV2.out.later hbx) hb (by omega) hg.ch HCW.out.len)
          have HEG : Hid (tld (bce base 0 l) = elG base [] 0 l) := (elG_tld hg.ch).symm
          clear hg HC2 HA HV2 RA2 BB2
          go_wp2_with fail
          refine HM.out.mono ?_
          rintro e w4 ⟨lv, rfl, hown, b4⟩
          have RA4 := Hid.mk7 (RA3.out.later b4)
          have BB4 := Hid.mk7 (BB3.out.trans (b4.mono BB3.out.size))
          have HTD := Hid.mk7 (rtold_any base hown.row HCW.out)
          rw [HEG.out] at HTD
          obtain ⟨la, lcap, rfl, _, _⟩ := id hown.row
          clear RA3 BB3 hown b4 HM
          go_wp2_with fail
          refine HTD.out.mono ?_
          rintro e w5 ⟨hTR, b5⟩
          have RA5 := Hid.mk7 (RA4.out.later b5)
          have BB5 := Hid.mk7 (BB4.out.trans (b5.mono BB4.out.size))
          have hlt4 := RA4.out.lt
          have fz := RA5.out.fz
          have rlt := RA5.out.lt
          have ra0 := RA5.out.c0
          have ra1 := RA5.out.c1
          unfold ToldR at hTR
          by_cases h60 : 60 < (elG base [] 0 l).length
          · rw [if_pos h60] at hTR
            subst hTR
            clear b5 HTD
            go_wp2
            refine bodyPost_ret (results_del2 rfl _ _ w.heap.size _ _ _ rfl rfl (RA5.out.set _ _)) rfl ?_
            refine ⟨?_, below_set2 BB5.out (Nat.le_refl _) _ _⟩
            unfold BldR
            rw [HF0.out, if_neg (by decide), if_pos h60]
            rfl
          · rw [if_neg h60] at hTR
            obtain ⟨v', rfl, hE⟩ := hTR
            have HE := Hid.mk7 hE
            obtain ⟨ea, ecap, rfl, _⟩ := own_shapeE hE
            clear hE b5 HTD
            go_wp2
            refine bodyPost_ret (results_del2 rfl _ _ w.heap.size _ _ _ rfl rfl (RA5.out.set _ _)) rfl ?_
            refine ⟨?_, below_set2 BB5.out (Nat.le_refl _) _ _⟩
            unfold BldR
            rw [HF0.out, if_neg (by decide), if_neg h60]
            exact ⟨_, rfl, (HE.out.set2 (g := w.heap.size) (by omega) _ _).row⟩
end Go.Proofs.YtpfkidcaolfcoaaDoor
