/- SubsetRuns, walked. -/
import Derived.Test.YtgdolopggocleaaSubLawB
namespace Go.Proofs.Ytgdolopggocleaa
open Go.RowKit Go.Sort
set_option linter.unusedSimpArgs false
set_option linter.unusedVariables false

/-- The count of the last run; -1, if there is none. -/
def lastC (rs : List Sg) : Int := match rs.getLast? with | some r => r.2 | none => -1
theorem lastC_snoc (rs : List Sg) (r : Sg) : lastC (rs ++ [r]) = r.2 := by simp [lastC]
theorem lastC_range {rs : List Sg} (h : Fm rs) : -1 ≤ lastC rs ∧ lastC rs ≤ 100 := by
  unfold lastC
  cases e : rs.getLast? with
  | none => simp
  | some r => have := h.2 r (List.mem_of_getLast? e); simp only; omega
theorem fm_snoc {rs : List Sg} (h : Fm rs) {n c : Int} (hn : 1 ≤ n) (h0 : 0 ≤ c) (h1 : c ≤ 100) (hc : c ≠ lastC rs) : Fm (rs ++ [(n, c)]) := by
  refine ⟨(cn_append _ _).2 ⟨h.1, ⟨hn, by simp, trivial⟩, fun x y hx hy => ?_⟩, fun r hr => ?_⟩
  · simp at hy
    subst hy
    unfold lastC at hc
    rw [hx] at hc
    exact hc
  · rcases List.mem_append.1 hr with hr | hr
    · exact h.2 r hr
    · simp at hr; subst hr; exact ⟨h0, h1⟩
theorem xp_snoc_len (rs : List Sg) (n c : Int) : (xp (rs ++ [(n, c)])).length = (xp rs).length + n.toNat := by rw [xp_append, xp_one]; simp
theorem two_fm (O : Int) (h0 : 0 ≤ O) (h1 : O ≤ 99) : Fm [(20000, O), (1, O + 1)] :=
  ⟨⟨by simp, fun q hq => by simp at hq; subst hq; simp only; omega, by simp, by simp, trivial⟩, fun r hr => by simp at hr; rcases hr with rfl | rfl <;> simp only <;> omega⟩
theorem two_long (O : Int) : 20000 < (xp [(20000, O), (1, O + 1)]).length := by
  rw [show ([(20000, O), (1, O + 1)] : List Sg) = [(20000, O)] ++ [(1, O + 1)] from rfl, xp_snoc_len, xp_one, List.length_replicate]
  omega
theorem runs_of2 (O : Int) (h0 : 0 ≤ O) (h1 : O ≤ 99) (W : World) : Calls Try.prog 10 #[.slice (some ⟨W.heap.size, 0, none⟩) 2 2] (W.alloc (.cells #[.int .i64 20000, .int .i64 O, .int .i64 1, .int .i64 (O + 1)] 43)) fun e w' => e = .returned (.tuple #[.pointer none, .int .i64 70]) ∧ Below W.heap.size W w' := by
  refine (of_many (row_lit W [(20000, O), (1, O + 1)] _ rfl 2 rfl) (by simp) (two_fm O h0 h1) (Or.inr (two_long O))).mono ?_
  rintro e w' ⟨rfl, b⟩
  exact ⟨rfl, ((Below.refl _ W).alloc (Nat.le_refl _) _).trans (b.mono (by simp))⟩

set_option maxHeartbeats 4000000 in
set_option maxRecDepth 100000 in
theorem runs_any (lens counts : List Int) (lv cv : Value) (one : Int) (h1 : ∀ z ∈ lens, 0 ≤ z ∧ z ≤ 255) (h2 : ∀ z ∈ counts, 0 ≤ z ∧ z ≤ 255) (h3 : 0 ≤ one ∧ one ≤ 255) (w : World) (hL : NumAt .u8 w lv lens) (hC : NumAt .u8 w cv counts)
    (hl1 : lens.length ≤ 1152921504606846976) (hl2 : counts.length ≤ 1152921504606846976) :
    Calls Try.prog 4 #[lv, cv, .int .u8 one] w fun e w' => e = .returned (.bool true) ∧ Below w.heap.size w w' := by
  obtain ⟨i0, hi, hz0, hz1, hz2⟩ := info_parts Try.info_seg
  have HK := Hid.mk7 (known7_any w)
  obtain ⟨la, lcap, rfl, hlc, hlcell⟩ := hL
  obtain ⟨ca, ccap, rfl, hcc, hccell⟩ := hC
  have HLC := Hid.mk7 hlcell
  have HCC := Hid.mk7 hccell
  have H1 := Hid.mk7 h1
  have H2 := Hid.mk7 h2
  clear hlcell hccell h1 h2
  by_cases hbig : 220 < lens.length
  · have d1 : decide ((220 : Int) < (lens.length : Int)) = true := decide_eq_true (by omega)
    go_enter Try.func4, Try.ntmps4
    go_wp2_with fail
    refine HK.out.mono ?_
    rintro e w1 ⟨rfl, b1⟩
    go_wp2
    go_ret
    exact ⟨rfl, b1⟩
  have d1 : decide ((220 : Int) < (lens.length : Int)) = false := decide_eq_false (by omega)
  have d1' : decide (220 < lens.length) = false := decide_eq_false (by omega)
  by_cases hfew : counts.length < lens.length
  · have d2 : decide ((counts.length : Int) < (lens.length : Int)) = true := decide_eq_true (by omega)
    go_enter Try.func4, Try.ntmps4
    go_wp2_with fail
    refine HK.out.mono ?_
    rintro e w1 ⟨rfl, b1⟩
    go_wp2
    go_ret
    exact ⟨rfl, b1⟩
  have d2 : decide ((counts.length : Int) < (lens.length : Int)) = false := decide_eq_false (by omega)
  have d2' : decide (counts.length < lens.length) = false := decide_eq_false (by omega)
  go_enter Try.func4, Try.ntmps4
  go_wp2_with fail
  refine HK.out.mono ?_
  rintro e w1 ⟨rfl, b1⟩
  clear HK
  go_wp2
  go_loopw [7, 8, 9, 10] (fun sv nv lv iv wr => ∃ (i P : Nat) (l : Int) (rs : List Sg), i ≤ lens.length ∧ iv = .int .i64 (i : Nat) ∧ nv = .int .i64 (P : Nat) ∧ lv = .int .i64 l ∧ P ≤ 50 * i ∧ -1 ≤ l ∧ l ≤ 100 ∧ Hid (rs.length = i) ∧ Hid (P = (xp rs).length) ∧ Hid (l = lastC rs) ∧ Hid (Fm rs) ∧ Hid (Own wr w1.heap.size sv rs) ∧ Below w1.heap.size w1 wr) (fun _ _ _ iv _ => lens.length - (intOf iv).toNat)
  case atStart => exact ⟨0, 0, -1, [], Nat.zero_le _, rfl, rfl, rfl, by omega, by omega, by omega, rfl, rfl, rfl, ⟨trivial, fun r hr => by simp at hr⟩, Own.nil _ _, Below.refl _ _⟩
  case round =>
    obtain ⟨i, P, l, rs, hil, rfl, rfl, rfl, hP, hl0, hl100, HLN, HPX, HLS, HFM, HOWN, hb⟩ := hrel
    by_cases hlt : i < lens.length
    · obtain ⟨a, ha⟩ : ∃ a, lens[i]? = some a := ⟨lens[i], List.getElem?_eq_getElem hlt⟩
      obtain ⟨d, hd⟩ : ∃ a, counts[i]? = some a := ⟨counts[i]'(by omega), List.getElem?_eq_getElem (by omega)⟩
      obtain ⟨g1, off1, rfl, q1⟩ := HLC.out i a ha
      obtain ⟨g2, off2, rfl, q2⟩ := HCC.out i d hd
      have bw := b1.trans (hb.mono b1.size)
      have c1 := cell_later7 bw (Nat.le_refl _) q1
      have c2 := cell_later7 bw (Nat.le_refl _) q2
      have gl1 : g1 < wr.heap.size := World.block_lt_of_cell? wr ⟨g1, _, none⟩ c1
      have ra := H1.out a (List.mem_of_getElem? ha)
      have rd := H2.out d (List.mem_of_getElem? hd)
      obtain ⟨A, hA, hA3⟩ : ∃ A : Nat, a % 50 = (A : Int) ∧ A < 50 := ⟨(a % 50).toNat, by omega, by omega⟩
      obtain ⟨D, hD, hD3⟩ : ∃ D : Nat, d % 101 = (D : Int) ∧ D ≤ 100 := ⟨(d % 101).toNat, by omega, by omega⟩
      have gw1 : g1 < w1.heap.size := Nat.lt_of_lt_of_le (World.block_lt_of_cell? w ⟨g1, _, none⟩ q1) b1.size
      clear q1 q2 ha hd bw
      have hcl : i + 1 ≤ 221 := by omega
      have hsz := hb.size
      by_cases he : (D : Int) = l
      · obtain ⟨E, hE, hE3, hEl⟩ : ∃ E : Nat, ((D : Int) + 1) % 101 = (E : Int) ∧ E ≤ 100 ∧ (E : Int) ≠ l := ⟨(((D : Int) + 1) % 101).toNat, by omega, by omega, by omega⟩
        have e1 : ((D : Int) == l) = true := by simpa using he
        have HF2 : Hid (Fm (rs ++ [((A : Int) + 1, (E : Int))])) := fm_snoc HFM.out (by omega) (by omega) (by omega) (by rw [← HLS.out]; exact hEl)
        have HX2 : Hid (P + A + 1 = (xp (rs ++ [((A : Int) + 1, (E : Int))])).length) := by show _ = _; rw [xp_snoc_len, HPX.out]; omega
        have HLC2 : Hid ((E : Int) = lastC (rs ++ [((A : Int) + 1, (E : Int))])) := by show _ = _; rw [lastC_snoc]
        have HLN2 : Hid ((rs ++ [((A : Int) + 1, (E : Int))]).length = i + 1) := by show _ = _; rw [List.length_append, HLN.out]; rfl
        have HO : Hid (wr.ownsRow w1.heap.size 43 2 u7 i (cs rs)) := by have := HOWN.out; unfold Own at this; rw [HLN.out] at this; exact this
        clear he hEl
        go_wp2_with (at_builtin; refine wpList_append_own _ rfl _ _ 22 rfl w1.heap.size 43 i0 (.agg #[.int .i64 0, .int .i64 0]) 2 16 Try.underlying22 hi hz0 hz1 hz2 rfl (by decide) _ _ _ rfl (World.ownsRow.alloc HO.out _) ⟨_, 0, none⟩ 1 1 [.int .i64 ((A : Int) + 1), .int .i64 (E : Int)] rfl rfl (two_new7 _ _ _ _) (fun u hu => by simp at hu; rcases hu with rfl | rfl <;> rfl) (by unfold maxLen; omega) (by omega) (by simp; omega) ?_)
        intro v' w3 hown' hgrow _
        have hgw := grown_trans (World.grownBy_alloc wr (.cells #[.int .i64 ((A : Int) + 1), .int .i64 (E : Int)] 43) _) hgrow
        have f1 : w3.cell? ⟨g1, off1 + i, none⟩ = some (.int .u8 a) := hgw.cell c1 (fun e => by have := (HO.out.lt _ e.symm).1; simp only at this; omega)
        have hb3 : Below w1.heap.size w1 w3 := hb.grown hgw hb.size (fun j hj => (HO.out.lt _ hj).1)
        have HO2 : Hid (Own w3 w1.heap.size v' (rs ++ [((A : Int) + 1, (E : Int))])) := by
          show World.ownsRow _ _ _ _ _ _ _
          rw [HLN2.out, cs_append, cs_one]
          exact hown'
        clear hown' hgrow hgw c1 c2 HO HOWN
        go_wp2
        go_roundw
        case rel => exact ⟨i + 1, P + A + 1, E, rs ++ [((A : Int) + 1, (E : Int))], by omega, by go_num, by go_num, rfl, by omega, by omega, by omega, HLN2, HX2, HLC2, HF2, HO2, hb3⟩
        case measure => simp [intOf]; omega
      · have e1 : ((D : Int) == l) = false := by simpa using he
        have hEl := he
        have hE3 := hD3
        have HF2 : Hid (Fm (rs ++ [((A : Int) + 1, (D : Int))])) := fm_snoc HFM.out (by omega) (by omega) (by omega) (by rw [← HLS.out]; exact hEl)
        have HX2 : Hid (P + A + 1 = (xp (rs ++ [((A : Int) + 1, (D : Int))])).length) := by show _ = _; rw [xp_snoc_len, HPX.out]; omega
        have HLC2 : Hid ((D : Int) = lastC (rs ++ [((A : Int) + 1, (D : Int))])) := by show _ = _; rw [lastC_snoc]
        have HLN2 : Hid ((rs ++ [((A : Int) + 1, (D : Int))]).length = i + 1) := by show _ = _; rw [List.length_append, HLN.out]; rfl
        have HO : Hid (wr.ownsRow w1.heap.size 43 2 u7 i (cs rs)) := by have := HOWN.out; unfold Own at this; rw [HLN.out] at this; exact this
        clear he hEl
        go_wp2_with (at_builtin; refine wpList_append_own _ rfl _ _ 22 rfl w1.heap.size 43 i0 (.agg #[.int .i64 0, .int .i64 0]) 2 16 Try.underlying22 hi hz0 hz1 hz2 rfl (by decide) _ _ _ rfl (World.ownsRow.alloc HO.out _) ⟨_, 0, none⟩ 1 1 [.int .i64 ((A : Int) + 1), .int .i64 (D : Int)] rfl rfl (two_new7 _ _ _ _) (fun u hu => by simp at hu; rcases hu with rfl | rfl <;> rfl) (by unfold maxLen; omega) (by omega) (by simp; omega) ?_)
        intro v' w3 hown' hgrow _
        have hgw := grown_trans (World.grownBy_alloc wr (.cells #[.int .i64 ((A : Int) + 1), .int .i64 (D : Int)] 43) _) hgrow
        have f1 : w3.cell? ⟨g1, off1 + i, none⟩ = some (.int .u8 a) := hgw.cell c1 (fun e => by have := (HO.out.lt _ e.symm).1; simp only at this; omega)
        have hb3 : Below w1.heap.size w1 w3 := hb.grown hgw hb.size (fun j hj => (HO.out.lt _ hj).1)
        have HO2 : Hid (Own w3 w1.heap.size v' (rs ++ [((A : Int) + 1, (D : Int))])) := by
          show World.ownsRow _ _ _ _ _ _ _
          rw [HLN2.out, cs_append, cs_one]
          exact hown'
        clear hown' hgrow hgw c1 c2 HO HOWN
        go_wp2
        go_roundw
        case rel => exact ⟨i + 1, P + A + 1, D, rs ++ [((A : Int) + 1, (D : Int))], by omega, by go_num, by go_num, rfl, by omega, by omega, by omega, HLN2, HX2, HLC2, HF2, HO2, hb3⟩
        case measure => simp [intOf]; omega
    · obtain rfl : i = lens.length := by omega
      obtain ⟨sa, scap, hsv, hscap, _⟩ := own_shape HOWN.out
      rw [HLN.out] at hsv hscap
      subst hsv
      have HSG : Hid (SgAt wr (.slice sa lens.length scap) rs) := HOWN.out.row
      clear HOWN
      by_cases hm : 200 < lens.length
      · have HOF := Hid.mk7 (of_many HSG.out (by rw [HLN.out]; omega) HFM.out (Or.inl (by rw [HLN.out]; exact hm)))
        have d3 : decide ((200 : Int) < (lens.length : Int)) = true := decide_eq_true (by omega)
        go_wp2_with fail
        refine HOF.out.mono ?_
        rintro e w4 ⟨rfl, b4⟩
        have g4 := b1.trans ((hb.trans (b4.mono hb.size)).mono b1.size)
        clear HOF
        go_wp2
        go_ret
        exact ⟨rfl, g4⟩
      · have HOF := Hid.mk7 (of_ok HSG.out HFM.out (by rw [HLN.out]; omega) (by rw [← HPX.out]; omega))
        have HRX : Hid (rle (xp rs) = rs) := rle_xp HFM.out.1
        have d3 : decide ((200 : Int) < (lens.length : Int)) = false := decide_eq_false (by omega)
        have d3' : decide (200 < lens.length) = false := decide_eq_false (by omega)
        obtain ⟨O, hO, hO3⟩ : ∃ O : Nat, one % 100 = (O : Int) ∧ O ≤ 99 := ⟨(one % 100).toNat, by omega, by omega⟩
        go_wp2_with fail
        refine HOF.out.mono ?_
        rintro e w4 ⟨s, rfl, hs, b4⟩
        have S4 := Hid.mk7 hs
        have R4 := Hid.mk7 (HSG.out.later b4)
        have g4 := b1.trans ((hb.trans (b4.mono hb.size)).mono b1.size)
        clear HOF hs b4 hb HSG b1
        go_wp2_with fail
        refine (runs_of2 (O : Int) (by omega) (by omega) w4).mono ?_
        rintro e w5 ⟨rfl, b5⟩
        have S5 := Hid.mk7 (S4.out.later b5)
        have R5 := Hid.mk7 (R4.out.later b5)
        have g5 := g4.trans (b5.mono g4.size)
        clear S4 R4 g4 b5
        go_wp2_with fail
        refine (segs_any S5.out (by rw [← HPX.out]; omega)).mono ?_
        rintro e w6 ⟨tv, rfl, ht, b6⟩
        rw [HRX.out] at ht
        obtain ⟨ta, tcap, htv, htcap, _, htc⟩ := id ht
        rw [HLN.out] at htv htcap
        subst htv
        have T6 := Hid.mk7 ht
        have S6 := Hid.mk7 (S5.out.later b6)
        have R6 := Hid.mk7 (R5.out.later b6)
        have g6 := g5.trans (b6.mono g5.size)
        clear S5 R5 g5 b6 ht htc
        have HLEN : Hid (Calls Try.prog 18 #[s] w6 fun e w' => e = .returned (.int .i64 (P : Nat)) ∧ Below w6.heap.size w6 w') := by
          have := len_any7 S6.out (by rw [← HPX.out]; omega)
          rw [← HPX.out] at this
          exact this
        go_wp2_with fail
        refine HLEN.out.mono ?_
        rintro e w7 ⟨rfl, b7⟩
        have T7 := Hid.mk7 (T6.out.later b7)
        have R7 := Hid.mk7 (R6.out.later b7)
        have g7 := g6.trans (b7.mono g6.size)
        clear T6 R6 S6 g6 b7 HLEN
        go_wp2
        obtain ⟨ta', tcap', he1, _, _, htc⟩ := T7.out
        rw [HLN.out] at he1
        obtain ⟨sa', scap', he2, _, _, hsc⟩ := R7.out
        rw [HLN.out] at he2
        cases he1
        cases he2
        have HTC := Hid.mk7 htc
        have HSC := Hid.mk7 hsc
        clear htc hsc
        go_loopw [17] (fun jv wx => ∃ j : Nat, j ≤ lens.length ∧ jv = .int .i64 (j : Nat) ∧ Below w7.heap.size w7 wx) (fun jv _ => lens.length - (intOf jv).toNat)
        case atStart => exact ⟨0, Nat.zero_le _, rfl, Below.refl _ _⟩
        case round =>
          obtain ⟨j, hj, rfl, hbj⟩ := hrel
          by_cases hjl : j < lens.length
          · obtain ⟨⟨rn, rc⟩, hr⟩ : ∃ r, rs[j]? = some r := ⟨rs[j]'(by rw [HLN.out]; exact hjl), List.getElem?_eq_getElem _⟩
            obtain ⟨g, off, rfl, q0, q1⟩ := HTC.out j _ hr
            obtain ⟨g2, off2, rfl, q2, q3⟩ := HSC.out j _ hr
            have c0 := cell_later7 hbj (Nat.le_refl _) q0
            have c1 := cell_later7 hbj (Nat.le_refl _) q1
            have c2 := cell_later7 hbj (Nat.le_refl _) q2
            have c3 := cell_later7 hbj (Nat.le_refl _) q3
            simp only at c0 c1 c2 c3
            clear q0 q1 q2 q3 hr
            go_wp2
            go_quiet (fail)
            go_wp2
            go_roundw
            case rel => exact ⟨j + 1, by omega, by go_num, below_drewN hbj nq⟩
            case measure => simp [intOf]; omega
          · go_wp2
            go_ret
            exact ⟨rfl, g7.trans (hbj.mono g7.size)⟩
end Go.Proofs.Ytgdolopggocleaa
