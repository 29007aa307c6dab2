/- BreaksTell walked. -/
import Derived.Test.YtafhogfbjklboaaDoorBrkLWrap
import Derived.Test.YtafhogfbjklboaaDoorBrkTake
import Derived.Test.YtafhogfbjklboaaDoorBrkREd
import Derived.Test.YtafhogfbjklboaaDoorBrkFew
namespace Go.Proofs.YtafhogfbjklboaaDoor
open Go.RowKit Go.Sort
set_option linter.unusedSimpArgs false
set_option linter.unusedVariables false

theorem fewD16_of {n : Int} {es : List El} (h : fewD n es = true) : Sm es 281474976710656 := by
  unfold fewD at h
  simp only [Bool.and_eq_true, List.all_eq_true, decide_eq_true_eq] at h
  intro e he
  have := h.1 e he
  omega
theorem few16_v {w : World} {v : Value} {es : List El} {base : Int} {x : Bool} (hx : fewD base es = x) (h : ElAt w v es) (hl : es.length ≤ maxLen) :
    Calls Tryd.prog 10 #[.agg #[.int .i64 base, v]] w fun e w' => e = .returned (.bool x) ∧ Below w.heap.size w w' := by
  subst hx; exact fewD16_any base h hl
theorem pbL_len (y : Int) (l : List Int) : (pbL y l).length ≤ 61 := by
  unfold pbL
  split
  · rename_i h
    have := (isK_spec.1 h.1).1
    split
    · omega
    · split
      · simp
      · rw [insK_len]; omega
  · simp
theorem tkL_len (y : Int) (l : List Int) : (tkL y l).length ≤ l.length := by
  unfold tkL
  split
  · exact List.length_erase_le
  · simp
theorem ebL_len (base : Int) (es : List El) (l : List Int) : (ebL base es l).length ≤ l.length := by
  unfold ebL
  split
  · exact edK_len _ _ _ _
  · simp
theorem is16_v {w : World} {v : Value} {L : List Int} {n : Int} {r : Bool} (he : isK n L = r) (h : NAt w v L) (hl : L.length ≤ 1073741824) :
    Calls Tryd.prog 17 #[v, .int .i64 n] w fun e w' => e = .returned (.bool r) ∧ w' = w := by
  subst he; exact is_any16 n h hl
theorem ris16_v {w : World} {v : Value} {L : List Int} {n : Int} {r : Bool} (he : isK n L = r) (h : NAt w v L) (hl : L.length ≤ 1073741824) :
    Calls Tryd.prog 18 #[v, .int .i64 n] w fun e w' => e = .returned (.bool r) ∧ Below w.heap.size w w' := by
  subst he; exact ris_any16 n h hl
set_option maxHeartbeats 16000000 in
set_option maxRecDepth 100000 in
theorem tells_any16 {w : World} {v ev : Value} {l : List Int} {es : List El} (base at' n : Int) (hl : l.length ≤ maxLen) (hle : es.length ≤ maxLen) (tb : Nat × Nat) (hT : Tab w tb) (hU : UT w) (h : NAt w v l) (he : ElAt w ev es) :
    Calls Tryd.prog 3 #[v, .int .i64 at', .int .i64 n, .agg #[.int .i64 base, ev]] w fun e w' => e = .returned (.bool true) ∧ Below w.heap.size w w' := by
  obtain ⟨a, cap, rfl⟩ := nat_shape h
  obtain ⟨ea, ecap, rfl, _⟩ := id he
  obtain ⟨W, hW⟩ : ∃ W, W = w.alloc (.cells #[.int .i64 base, .slice ea es.length ecap] 25) := ⟨_, rfl⟩
  have b0 : Below w.heap.size w W := by rw [hW]; exact below16 (Below.refl _ _) _
  have D0 : Hid (Rd W w.heap.size (.int .i64 base) (.slice ea es.length ecap)) := by rw [hW]; exact Rd.new w _ _
  have A0 := Hid.mk7 (h.later b0)
  have E0 := Hid.mk7 (he.later b0)
  have T0 := Hid.mk7 (hT.later b0)
  have HK := Hid.mk7 (known16_any W (hU.later b0))
  have G0 := Hid.mk7 b0
  unfold maxLen at hl
  clear h he hT hU b0
  go_enter Tryd.func3, Tryd.ntmps3
  go_upto_region 1 with fail
  rw [← hW]
  clear hW
  go_wp2_with fail
  refine HK.out.mono ?_
  rintro e w1 ⟨rfl, b1⟩
  have D1 := Hid.mk7 (D0.out.later b1)
  have A1 := Hid.mk7 (A0.out.later b1)
  have E1 := Hid.mk7 (E0.out.later b1)
  have T1 := Hid.mk7 (T0.out.later b1)
  have G1 := Hid.mk7 (below_old G0.out b1)
  clear b1 D0 A0 E0 T0 G0 HK
  by_cases h70 : 70 < l.length
  · have d70 : decide ((70 : Int) < (l.length : Nat)) = true := decide_eq_true (by omega)
    have d70b : decide (70 < l.length) = true := decide_eq_true h70
    go_wp2
    go_ret
    exact ⟨rfl, G1.out⟩
  have d70 : decide ((70 : Int) < (l.length : Nat)) = false := decide_eq_false (by omega)
  have d70b : decide (70 < l.length) = false := decide_eq_false h70
  have c0 := D1.out.c0
  have c1 := D1.out.c1
  cases hf : fewD base es with
  | false =>
    have HF := Hid.mk7 (few16_v hf E1.out hle)
    clear hf
    go_wp2_with fail
    refine HF.out.mono ?_
    rintro e w2 ⟨rfl, b2⟩
    have G2 := Hid.mk7 (below_old G1.out b2)
    clear b2 c0 c1
    go_wp2
    go_ret
    exact ⟨rfl, G2.out⟩
  | true =>
    have HF := Hid.mk7 (few16_v hf E1.out hle)
    have hsm := Hid.mk7 (fewD16_of hf)
    clear hf
    go_wp2_with fail
    refine HF.out.mono ?_
    rintro e w2 ⟨rfl, b2⟩
    have D2 := Hid.mk7 (D1.out.later b2)
    have A2 := Hid.mk7 (A1.out.later b2)
    have E2 := Hid.mk7 (E1.out.later b2)
    have T2 := Hid.mk7 (T1.out.later b2)
    have G2 := Hid.mk7 (below_old G1.out b2)
    clear b2 D1 A1 E1 T1 G1 HF c0 c1 d70 d70b
    have P2 := Hid.mk7 (put_any16 at' A2.out (by omega))
    go_wp2_with fail
    refine P2.out.mono ?_
    rintro e w3 ⟨v3, rfl, n3, b3⟩
    have D3 := Hid.mk7 (D2.out.later b3)
    have A3 := Hid.mk7 (A2.out.later b3)
    have E3 := Hid.mk7 (E2.out.later b3)
    have T3 := Hid.mk7 (T2.out.later b3)
    have G3 := Hid.mk7 (below_old G2.out b3)
    have X3 := Hid.mk7 n3
    clear b3 n3 D2 A2 E2 T2 G2 P2
    have P3 := Hid.mk7 (rput_any16 at' A3.out (by omega))
    go_wp2_with fail
    refine P3.out.mono ?_
    rintro e w4 ⟨v4, rfl, n4, b4⟩
    have D4 := Hid.mk7 (D3.out.later b4)
    have A4 := Hid.mk7 (A3.out.later b4)
    have E4 := Hid.mk7 (E3.out.later b4)
    have T4 := Hid.mk7 (T3.out.later b4)
    have G4 := Hid.mk7 (below_old G3.out b4)
    have X4 := Hid.mk7 (X3.out.later b4)
    have Y4 := Hid.mk7 n4
    clear b4 n4 D3 A3 E3 T3 G3 X3 P3
    have P4 := Hid.mk7 (take_any16 at' A4.out (by omega))
    go_wp2_with fail
    refine P4.out.mono ?_
    rintro e w5 ⟨v5, rfl, n5, b5⟩
    have D5 := Hid.mk7 (D4.out.later b5)
    have A5 := Hid.mk7 (A4.out.later b5)
    have E5 := Hid.mk7 (E4.out.later b5)
    have T5 := Hid.mk7 (T4.out.later b5)
    have G5 := Hid.mk7 (below_old G4.out b5)
    have X5 := Hid.mk7 (X4.out.later b5)
    have Y5 := Hid.mk7 (Y4.out.later b5)
    have U5 := Hid.mk7 n5
    clear b5 n5 D4 A4 E4 T4 G4 X4 Y4 P4
    have P5 := Hid.mk7 (ltake_any at' A5.out (by omega))
    go_wp2_with fail
    refine P5.out.mono ?_
    rintro e w6 ⟨v6, rfl, n6, b6⟩
    have D6 := Hid.mk7 (D5.out.later b6)
    have A6 := Hid.mk7 (A5.out.later b6)
    have E6 := Hid.mk7 (E5.out.later b6)
    have T6 := Hid.mk7 (T5.out.later b6)
    have G6 := Hid.mk7 (below_old G5.out b6)
    have X6 := Hid.mk7 (X5.out.later b6)
    have Y6 := Hid.mk7 (Y5.out.later b6)
    have U6 := Hid.mk7 (U5.out.later b6)
    have V6 := Hid.mk7 n6
    clear b6 n6 D5 A5 E5 T5 G5 X5 Y5 U5 P5
    have P6 := Hid.mk7 (edit_any16 base A6.out (by omega) E6.out hsm.out tb T6.out)
    have c0 := D6.out.c0
    have c1 := D6.out.c1
    go_wp2_with fail
    refine P6.out.mono ?_
    rintro e w7 ⟨v7, rfl, n7, b7⟩
    have D7 := Hid.mk7 (D6.out.later b7)
    have A7 := Hid.mk7 (A6.out.later b7)
    have E7 := Hid.mk7 (E6.out.later b7)
    have G7 := Hid.mk7 (below_old G6.out b7)
    have X7 := Hid.mk7 (X6.out.later b7)
    have Y7 := Hid.mk7 (Y6.out.later b7)
    have U7 := Hid.mk7 (U6.out.later b7)
    have V7 := Hid.mk7 (V6.out.later b7)
    have M7 := Hid.mk7 n7
    clear b7 n7 D6 A6 E6 T6 G6 X6 Y6 U6 V6 P6 c0 c1
    have P7 := Hid.mk7 (redit_any16 base A7.out (by omega) E7.out hsm.out)
    have c0 := D7.out.c0
    have c1 := D7.out.c1
    go_wp2_with fail
    refine P7.out.mono ?_
    rintro e w8 ⟨v8, rfl, n8, b8⟩
    have A8 := Hid.mk7 (A7.out.later b8)
    have G8 := Hid.mk7 (below_old G7.out b8)
    have S1 := Hid.mk7 (fun (W : World) (b : Below w8.heap.size w8 W) => same_yes16 ((X7.out.later b8).later b) ((Y7.out.later b8).later b) (by have := pbL_len at' l; omega))
    have S2 := Hid.mk7 (fun (W : World) (b : Below w8.heap.size w8 W) => same_yes16 ((U7.out.later b8).later b) ((V7.out.later b8).later b) (by have := tkL_len at' l; omega))
    have S3 := Hid.mk7 (fun (W : World) (b : Below w8.heap.size w8 W) => same_yes16 ((M7.out.later b8).later b) (n8.later b) (by have := ebL_len base es l; omega))
    clear b8 n8 D7 A7 E7 G7 X7 Y7 U7 V7 M7 P7 c0 c1
    generalize pbE at' l = pe at *
    generalize tkE at' l = te at *
    generalize ebE base es l = ee at *
    go_wp2
    go_loopw [21, 22] (fun nv iv wr => ∃ (k m : Nat), k ≤ l.length ∧ m ≤ k ∧ nv = .int .i64 (m : Nat) ∧ iv = .int .i64 (k : Nat) ∧ Hid (lnK at' (l.take k) = m) ∧ wr = w8) (fun _ iv _ => l.length - (intOf iv).toNat)
    case atStart => exact ⟨0, 0, Nat.zero_le _, Nat.le_refl _, rfl, rfl, rfl, rfl⟩
    case round =>
      obtain ⟨k, m, hk, hmk, rfl, rfl, HV, rfl⟩ := hrel
      by_cases hlt : k < l.length
      · obtain ⟨x, hr⟩ : ∃ r, l[k]? = some r := ⟨l[k], List.getElem?_eq_getElem hlt⟩
        obtain ⟨g, off, rfl, c0⟩ := nat_cell A8.out hr
        have HX := Hid.mk7 (lnK_take (y := at') hr)
        clear hr
        by_cases h1 : x ≤ at'
        · have s1 : decide (x ≤ at') = true := decide_eq_true h1
          have HN : Hid (lnK at' (l.take (k + 1)) = m + 1) := by show _ = _; rw [HX.out, HV.out, if_pos h1]
          clear HX HV
          go_wp2
          go_roundw
          case rel => exact ⟨k + 1, m + 1, by omega, by omega, by go_num, by go_num, HN, trivial⟩
          case measure => simp [intOf]; omega
        · have s1 : decide (x ≤ at') = false := decide_eq_false h1
          have HN : Hid (lnK at' (l.take (k + 1)) = m) := by show _ = _; rw [HX.out, HV.out, if_neg h1]; rfl
          clear HX HV
          go_wp2
          go_roundw
          case rel => exact ⟨k + 1, m, by omega, by omega, rfl, by go_num, HN, trivial⟩
          case measure => simp [intOf]; omega
      · obtain rfl : k = l.length := by omega
        have HL : lnK at' l = m := by have := HV.out; rw [List.take_length] at this; exact this
        have LN := Hid.mk7 (fun (W : World) (b : Below wr.heap.size wr W) => line_any16 at' (A8.out.later b) (by omega))
        rw [HL] at LN
        obtain ⟨bb, hbb⟩ : ∃ b, isK n l = b := ⟨_, rfl⟩
        have I1 := Hid.mk7 (is16_v hbb A8.out (by omega))
        have I2 := Hid.mk7 (ris16_v hbb A8.out (by omega))
        have hb2 : (bb == bb) = true := by simp
        have hp2 : (pe == pe) = true := by simp
        have ht2 : (te == te) = true := by simp
        have he2 : (ee == ee) = true := by simp
        clear hbb HL HV
        go_wp2_with fail
        refine I1.out.mono ?_
        rintro e w9 ⟨rfl, rfl⟩
        go_wp2_with fail
        refine I2.out.mono ?_
        rintro e w10 ⟨rfl, b10⟩
        have B10 := Hid.mk7 b10
        clear b10 I1 I2
        go_wp2_with fail
        refine (S1.out _ B10.out).mono ?_
        rintro e w11 ⟨rfl, b11⟩
        have B11 := Hid.mk7 (below_old B10.out b11)
        clear b11 B10 S1
        go_wp2_with fail
        refine (S2.out _ B11.out).mono ?_
        rintro e w12 ⟨rfl, b12⟩
        have B12 := Hid.mk7 (below_old B11.out b12)
        clear b12 B11 S2
        go_wp2_with fail
        refine (S3.out _ B12.out).mono ?_
        rintro e w13 ⟨rfl, b13⟩
        have B13 := Hid.mk7 (below_old B12.out b13)
        clear b13 B12 S3
        go_wp2_with fail
        refine (LN.out _ B13.out).mono ?_
        rintro e w14 ⟨rfl, rfl⟩
        have G14 := Hid.mk7 (below_old G8.out B13.out)
        go_wp2
        go_ret
        exact ⟨rfl, G14.out⟩
end Go.Proofs.YtafhogfbjklboaaDoor
