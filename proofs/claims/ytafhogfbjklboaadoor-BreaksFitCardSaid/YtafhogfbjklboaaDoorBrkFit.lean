/- BreaksFit walked. -/
import Derived.Test.YtafhogfbjklboaaDoorBrkLWrap
import Derived.Test.YtafhogfbjklboaaDoorBrkLaid
namespace Go.Proofs.YtafhogfbjklboaaDoor
open Go.RowKit Go.Sort
set_option linter.unusedSimpArgs false
set_option linter.unusedVariables false

/-- Where a text is broken rises. -/
theorem wrL_ris {w m : Int} (hw : 4 ≤ w) : ∀ (cs : List Int) (k : Nat) (n p a : Int), 0 ≤ n → (a < p ∨ (a ≤ p ∧ n = 0)) → p + ((flat cs).length : Nat) ≤ m → Ris m a (wrL w k n p cs)
  | [], k, n, p, a, _, _, _ => by rw [wrL_nil]; trivial
  | c :: cs, 0, n, p, a, _, _, _ => by rw [wrL_zero]; trivial
  | c :: cs, k + 1, n, p, a, hn, ha, hm => by
    have hel := enc_length c
    rw [flat_cons, List.length_append] at hm
    simp only [wrL]
    split
    · rename_i hb
      refine ⟨⟨by omega, by omega⟩, wrL_ris hw cs k _ _ _ (by split <;> omega) (Or.inl (by omega)) (by omega)⟩
    · exact wrL_ris hw cs (k + 1) _ _ _ (by split <;> omega) (Or.inl (by omega)) (by omega)
theorem enc_ten0 {c : Int} (h : scalar c) (t : List UInt8) : bl (enc c ++ t) 0 = 10 ↔ c = 10 := by
  unfold scalar at h
  by_cases g1 : c ≤ 127
  · have e : enc c = [c.toNat.toUInt8] := by unfold enc Lib.encodeRune; rw [Lib.encodeRuneZ_one (by omega) g1]; rfl
    rw [e]
    show (((c.toNat.toUInt8).toNat : Nat) : Int) = 10 ↔ c = 10
    rw [byte_of _ (by omega) (by omega)]
  · by_cases g2 : c ≤ 2047
    · have e : enc c = [(192 + c / 64).toNat.toUInt8, (128 + c % 64).toNat.toUInt8] := by unfold enc Lib.encodeRune; rw [Lib.encodeRuneZ_two (by omega) g2]; rfl
      rw [e]
      show ((((192 + c / 64).toNat.toUInt8).toNat : Nat) : Int) = 10 ↔ c = 10
      rw [byte_of _ (by omega) (by omega)]; omega
    · by_cases g3 : c ≤ 65535
      · have e : enc c = [(224 + c / 4096).toNat.toUInt8, (128 + c / 64 % 64).toNat.toUInt8, (128 + c % 64).toNat.toUInt8] := by unfold enc Lib.encodeRune; rw [Lib.encodeRuneZ_three (by omega)]; rfl
        rw [e]
        show ((((224 + c / 4096).toNat.toUInt8).toNat : Nat) : Int) = 10 ↔ c = 10
        rw [byte_of _ (by omega) (by omega)]; omega
      · have e : enc c = [(240 + c / 262144).toNat.toUInt8, (128 + c / 4096 % 64).toNat.toUInt8, (128 + c / 64 % 64).toNat.toUInt8, (128 + c % 64).toNat.toUInt8] := by unfold enc Lib.encodeRune; rw [Lib.encodeRuneZ_four (by omega) (by omega)]; rfl
        rw [e]
        show ((((240 + c / 262144).toNat.toUInt8).toNat : Nat) : Int) = 10 ↔ c = 10
        rw [byte_of _ (by omega) (by omega)]; omega
theorem enc_ten1 : (enc 10).length = 1 := by decide
/-- How far the loop has come: the next code point begins at the end of c1. -/
def Ft (w : Int) (s : ByteArray) (R : List Int) (at' : Nat) (fr : Int) (k : Nat) : Prop :=
  ∃ (c1 c2 M : List Int) (n : Int), s.data.toList = flat c1 ++ flat c2 ∧ Good c1 ∧ Good c2 ∧ at' ≤ (flat c1).length ∧ M.length = k ∧ R = M ++ wrL w (60 - k) n ((flat c1).length : Nat) c2 ∧
    fr = ((flat c1).length : Nat) - n ∧ 0 ≤ n ∧ n ≤ w ∧ 0 ≤ fr ∧ ∀ i, at' ≤ i → i < (flat c1).length → byt s i ≠ 10
theorem good_nil16 : Good [] := by
  intro c h
  cases h
theorem ft_start {w : Int} {s : ByteArray} (hv : vld s.data.toList = true) (hw : 4 ≤ w) : Ft w s (wrL w 60 0 0 (pts s.data.toList)) 0 0 0 :=
  ⟨[], pts s.data.toList, [], 0, by rw [flat_pts' hv]; rfl, good_nil16, good_pts' _, Nat.zero_le _, rfl, rfl, rfl, Int.le_refl _, by omega, Int.le_refl _, fun i _ h => absurd h (Nat.not_lt_zero _)⟩
theorem ft_tail {s : ByteArray} {c1 c3 : List Int} {c : Int} (h : s.data.toList = flat c1 ++ flat (c :: c3)) (hc : scalar c) : (byt s (flat c1).length = 10 ↔ c = 10) ∧ ∀ i, (flat c1).length + 1 ≤ i → i < (flat (c1 ++ [c])).length → byt s i ≠ 10 := by
  have hd : s.data.toList.drop (flat c1).length = enc c ++ flat c3 := by rw [flat_drop h, flat_cons]
  constructor
  · have := byt_bl s (flat c1).length 0
    rw [Nat.add_zero, hd] at this
    rw [this]
    exact enc_ten0 hc _
  · intro i h1 h2
    rw [flat_append, List.length_append] at h2
    have e : (flat [c]).length = (enc c).length := by simp [flat]
    rw [e] at h2
    obtain ⟨j, rfl⟩ : ∃ j, i = (flat c1).length + j := ⟨i - (flat c1).length, by omega⟩
    have := enc_cont c hc (flat c3) j (by omega) (by omega)
    rw [byt_bl, hd]
    omega
theorem ft_step {w : Int} {s : ByteArray} {R : List Int} {at' k : Nat} {fr : Int} (hw : 4 ≤ w) (hR : R.length < 60) (h : Ft w s R at' fr k) (hat : at' ≤ s.size) : k ≤ R.length ∧ 0 ≤ fr ∧ fr ≤ (s.size : Int) ∧
    (((∀ y, R[k]? = some y → (at' : Int) < y) ∧ (at' : Int) - fr ≤ w ∧ (at' = s.size → k = R.length) ∧ (at' < s.size → (byt s at' = 10 → Ft w s R (at' + 1) ((at' : Int) + 1) k) ∧ (byt s at' ≠ 10 → Ft w s R (at' + 1) fr k))) ∨
     (at' < s.size ∧ R[k]? = some (at' : Int) ∧ edg s (at' : Int) = true ∧ (∃ z : Nat, szAt s (at' : Int) = (z : Int) ∧ z ≤ 4 ∧ w < (at' : Int) - fr + z) ∧ (byt s at' = 10 → Ft w s R (at' + 1) ((at' : Int) + 1) (k + 1)) ∧ (byt s at' ≠ 10 → Ft w s R (at' + 1) (at' : Int) (k + 1)))) := by
  obtain ⟨c1, c2, M, n, hs, h1, h2, hq, hMk, hRR, hfr, hn0, hnw, hf0, hb⟩ := h
  have hsz := split_size hs
  have hkR : k ≤ R.length := by rw [hRR, List.length_append]; omega
  have hRk : ∀ X : List Int, R = M ++ X → R[k]? = X[0]? := fun X e => by rw [e, List.getElem?_append_right (by omega), hMk, Nat.sub_self]
  refine ⟨hkR, hf0, by omega, ?_⟩
  by_cases hlt : at' < (flat c1).length
  · refine Or.inl ⟨fun y hy => ?_, by omega, fun e => by omega, fun _ => ⟨fun e => absurd e (hb at' (Nat.le_refl _) hlt), fun _ => ⟨c1, c2, M, n, hs, h1, h2, by omega, hMk, hRR, hfr, hn0, hnw, hf0, fun i hi => hb i (by omega)⟩⟩⟩
    rw [hRk _ hRR] at hy
    have hris := wrL_ris hw (m := ((flat c1).length : Nat) + ((flat c2).length : Nat)) c2 (60 - k) n ((flat c1).length : Nat) (((flat c1).length : Nat) - 1) hn0 (Or.inl (by omega)) (by omega)
    have := ris_mem hris (List.mem_of_getElem? hy)
    omega
  · obtain rfl : at' = (flat c1).length := by omega
    cases c2 with
    | nil =>
      rw [flat_nil] at hsz
      simp at hsz
      rw [wrL_nil, List.append_nil] at hRR
      refine Or.inl ⟨fun y hy => ?_, by omega, fun _ => by rw [hRR, hMk], fun e => by omega⟩
      rw [List.getElem?_eq_none (by rw [hRR]; omega)] at hy
      cases hy
    | cons c c3 =>
      have hsc := h2.head
      obtain ⟨ht0, ht1⟩ := ft_tail hs hsc
      have hel := enc_length c
      have hfl : (flat (c1 ++ [c])).length = (flat c1).length + (enc c).length := by rw [flat_append, List.length_append]; simp [flat]
      have hs' : s.data.toList = flat (c1 ++ [c]) ++ flat c3 := by rw [hs, flat_append, flat_cons, flat_cons, flat_nil, List.append_nil, List.append_assoc]
      have h1' : Good (c1 ++ [c]) := h1.append (fun x hx => by simp at hx; subst hx; exact hsc)
      have h2' : Good c3 := fun x hx => h2 x (by simp [hx])
      have hlen3 : (flat (c :: c3)).length = (enc c).length + (flat c3).length := by rw [flat_cons, List.length_append]
      have hin : (flat c1).length < s.size := by omega
      by_cases hbr : w < n + ((enc c).length : Nat)
      · have hk60 : 60 - k ≠ 0 := by omega
        have hR2 := wrL_break hRR hbr hk60
        have hk1 : (M ++ [(((flat c1).length : Nat) : Int)]).length = k + 1 := by simp [hMk]
        have hke : 60 - k - 1 = 60 - (k + 1) := by omega
        rw [hke] at hR2
        refine Or.inr ⟨hin, ?_, edge_start hs h1 h2, ⟨(enc c).length, by rw [szAt_nat]; exact sz_start hs hsc, hel.2, by omega⟩, fun e => ?_, fun e => ?_⟩
        · rw [hR2, List.append_assoc, List.getElem?_append_right (by omega), hMk, Nat.sub_self]
          rfl
        · have hc := ht0.1 e
          rw [if_pos hc] at hR2
          subst hc
          rw [enc_ten1] at hfl hR2
          exact ⟨c1 ++ [10], c3, _, 0, hs', h1', h2', by omega, hk1, by rw [hfl]; exact hR2, by rw [hfl]; omega, Int.le_refl _, by omega, by omega, fun i hi => ht1 i (by omega)⟩
        · have hc : ¬ c = 10 := fun h => e (ht0.2 h)
          rw [if_neg hc] at hR2
          exact ⟨c1 ++ [c], c3, _, ((enc c).length : Nat), hs', h1', h2', by omega, hk1, by rw [hfl]; exact hR2, by rw [hfl]; omega, by omega, by omega, by omega, fun i hi => ht1 i (by omega)⟩
      · have hR2 := wrL_on hRR hbr
        refine Or.inl ⟨fun y hy => ?_, by omega, fun e => by omega, fun _ => ⟨fun e => ?_, fun e => ?_⟩⟩
        · rw [hRk _ hR2] at hy
          have hris := wrL_ris hw (m := ((flat c1).length : Nat) + ((enc c).length : Nat) + ((flat c3).length : Nat)) c3 (60 - k) (if c = 10 then 0 else n + ((enc c).length : Nat)) (((flat c1).length : Nat) + ((enc c).length : Nat)) ((flat c1).length : Nat) (by split <;> omega) (Or.inl (by omega)) (by omega)
          have := ris_mem hris (List.mem_of_getElem? hy)
          omega
        · have hc := ht0.1 e
          rw [if_pos hc] at hR2
          subst hc
          rw [enc_ten1] at hfl hR2
          exact ⟨c1 ++ [10], c3, M, 0, hs', h1', h2', by omega, hMk, by rw [hfl]; exact hR2, by rw [hfl]; omega, Int.le_refl _, by omega, by omega, fun i hi => ht1 i (by omega)⟩
        · have hc : ¬ c = 10 := fun h => e (ht0.2 h)
          rw [if_neg hc] at hR2
          exact ⟨c1 ++ [c], c3, M, n + ((enc c).length : Nat), hs', h1', h2', by omega, hMk, by rw [hfl]; exact hR2, by rw [hfl]; omega, by omega, by omega, by omega, fun i hi => ht1 i (by omega)⟩
set_option maxHeartbeats 8000000 in
set_option maxRecDepth 100000 in
theorem fit_any16 (s : ByteArray) (width : Int) (w : World) (hs : s.size ≤ maxLen) (h0 : 0 ≤ width ∧ width ≤ 255) (hU : UT w) :
    Calls Tryd.prog 5 #[.string s, .int .u8 width] w fun e w' => e = .returned (.bool true) ∧ Below w.heap.size w w' := by
  have HK := Hid.mk7 (known16_any w hU)
  have HU := Hid.mk7 hU
  have HVS := Hid.mk7 (fun W => refvalid_any s W hs)
  unfold maxLen at hs
  clear hU
  go_enter Tryd.func5, Tryd.ntmps5
  go_wp2_with fail
  refine HK.out.mono ?_
  rintro e w1 ⟨rfl, b1⟩
  have HU1 := Hid.mk7 (HU.out.later b1)
  have G1 := Hid.mk7 b1
  clear b1 HU HK
  by_cases h2 : 200 < s.size
  · have d2 : decide ((200 : Int) < (s.size : Int)) = true := decide_eq_true (by omega)
    go_wp2
    go_ret
    exact ⟨rfl, G1.out⟩
  have d2 : decide ((200 : Int) < (s.size : Int)) = false := decide_eq_false (by omega)
  cases hv : vld s.data.toList with
  | false =>
    rw [hv] at HVS
    clear hv
    go_wp2_with fail
    refine (HVS.out _).mono ?_
    rintro e w2 ⟨rfl, rfl⟩
    go_wp2
    go_ret
    exact ⟨rfl, G1.out⟩
  | true =>
    rw [hv] at HVS
    obtain ⟨wv, hwv⟩ : ∃ wv : Int, width % 30 + 4 = wv := ⟨_, rfl⟩
    have hw4 : 4 ≤ wv ∧ wv ≤ 33 := by omega
    obtain ⟨e1, e2⟩ := wr_ok (w := wv) (T := s.data.toList) ⟨hv, hw4.1⟩
    have HW := Hid.mk7 (wrap_any16 s wv w1 (by omega) HU1.out)
    have hlen := wrR_len wv s.data.toList
    have HFT := Hid.mk7 (ft_start hv hw4.1)
    have hris := wrL_ris (m := ((flat (pts s.data.toList)).length : Nat)) hw4.1 (pts s.data.toList) 60 0 0 0 (Int.le_refl _) (Or.inr ⟨Int.le_refl _, rfl⟩) (by omega)
    rw [flat_pts' hv, bytes_length] at hris
    rw [← e2] at HFT hris
    rw [e1] at HW
    generalize wrR wv s.data.toList = R at *
    have hk : isK ((s.size : Int) + 1) R = true := isK_spec.2 ⟨hlen, hris.mono (by omega)⟩
    clear e1 e2 hv hris
    go_wp2_with fail
    refine (HVS.out _).mono ?_
    rintro e w2 ⟨rfl, rfl⟩
    clear HVS
    go_wp2_with fail
    refine HW.out.mono ?_
    rintro e w3 ⟨v3, rfl, n3, b3⟩
    have G3 := Hid.mk7 (below_old G1.out b3)
    have A3 := Hid.mk7 n3
    have HIS := Hid.mk7 (is_any16 ((s.size : Int) + 1) n3 (by omega))
    rw [hk] at HIS
    obtain ⟨ra, rc, hsh⟩ := nat_shape n3
    subst hsh
    clear b3 n3 HU1 HW G1 hk
    go_wp2_with fail
    refine HIS.out.mono ?_
    rintro e w4 ⟨rfl, rfl⟩
    clear HIS
    by_cases h60 : R.length = 60
    · have d60 : ((R.length : Int) == 60) = true := by simpa using (by omega : (R.length : Int) = 60)
      clear h60
      go_wp2
      go_ret
      exact ⟨rfl, G3.out⟩
    have d60 : ((R.length : Int) == 60) = false := by simpa using (by omega : ¬ (R.length : Int) = 60)
    have hR60 : R.length < 60 := by omega
    clear h60
    go_wp2
    go_loopw [8, 9, 10] (fun fv kv iv wr => ∃ (q k : Nat) (fr : Int), fv = .int .i64 fr ∧ kv = .int .i64 (k : Nat) ∧ iv = .int .i64 (q : Nat) ∧ q ≤ s.size + 1 ∧ Hid (q ≤ s.size → Ft wv s R q fr k) ∧ Hid (q = s.size + 1 → k = R.length) ∧ wr = w4) (fun _ _ iv _ => s.size + 1 - (intOf iv).toNat)
    case atStart => exact ⟨0, 0, 0, rfl, rfl, rfl, by omega, fun _ => HFT.out, fun e => by omega, rfl⟩
    case round =>
      obtain ⟨q, k, fr, rfl, rfl, rfl, hq, HF, HE, rfl⟩ := hrel
      clear HFT
      by_cases hqs : q ≤ s.size
      · have dq : decide ((q : Int) ≤ (s.size : Int)) = true := decide_eq_true (by omega)
        have dq2 : decide (q ≤ s.size) = true := decide_eq_true hqs
        obtain ⟨hkR, hf0, hf1, hcase⟩ := ft_step hw4.1 hR60 (HF.out hqs) hqs
        rcases hcase with ⟨hA, hB, hC, hD⟩ | ⟨hin, hget, hedg, ⟨z, hz, hz4, hzw⟩, hD1, hD2⟩
        · have HC := Hid.mk7 hC
          have HD := Hid.mk7 hD
          have dB : decide (wv < (q : Int) - fr) = false := decide_eq_false (by omega)
          clear hC hD hB HF HE
          by_cases hkl : k < R.length
          · obtain ⟨y, hy⟩ : ∃ y, R[k]? = some y := ⟨R[k], List.getElem?_eq_getElem hkl⟩
            have hqy := hA y hy
            obtain ⟨g, o, hga, c0⟩ := nat_cell A3.out hy
            subst hga
            have dk : decide ((k : Int) < (R.length : Int)) = true := decide_eq_true (by omega)
            have dk2 : decide (k < R.length) = true := decide_eq_true hkl
            have dy : (y == (q : Int)) = false := by simpa using (by omega : ¬ y = (q : Int))
            clear hA hy hqy
            by_cases hin : q < s.size
            · have hiI : (q : Int) < s.size := by omega
              have ds : decide ((q : Int) < (s.size : Int)) = true := decide_eq_true hiI
              have hbm := byt_of s q hin
              have hbr := byt_range s q
              have HDD := Hid.mk7 (HD.out hin)
              rw [hbm] at HDD hbr
              clear hbm HD HC
              by_cases hten : ((s[q].toNat : Int) == 10) = true
              · have HN := Hid.mk7 (HDD.out.1 (by simpa using hten))
                clear HDD
                go_wp2
                go_roundw
                case rel => exact ⟨q + 1, k, (q : Int) + 1, by go_num, rfl, by go_num, by omega, fun _ => HN.out, fun e => by omega, trivial⟩
                case measure => simp [intOf]; omega
              · have hten2 : ((s[q].toNat : Int) == 10) = false := by simpa using hten
                have HN := Hid.mk7 (HDD.out.2 (by simpa using hten))
                clear HDD hten
                go_wp2
                go_roundw
                case rel => exact ⟨q + 1, k, fr, rfl, rfl, by go_num, by omega, fun _ => HN.out, fun e => by omega, trivial⟩
                case measure => simp [intOf]; omega
            · have hqe : q = s.size := by omega
              have hkk := Hid.mk7 (HC.out hqe)
              have ds : decide ((q : Int) < (s.size : Int)) = false := decide_eq_false (by omega)
              have ds2 : decide (q < s.size) = false := decide_eq_false hin
              clear HC HD hqe
              go_wp2
              go_roundw
              case rel => exact ⟨q + 1, k, fr, rfl, rfl, by go_num, by omega, fun e => by omega, fun _ => hkk.out, trivial⟩
              case measure => simp [intOf]; omega
          · have dk : decide ((k : Int) < (R.length : Int)) = false := decide_eq_false (by omega)
            have dk2 : decide (k < R.length) = false := decide_eq_false hkl
            clear hA
            by_cases hin : q < s.size
            · have hiI : (q : Int) < s.size := by omega
              have ds : decide ((q : Int) < (s.size : Int)) = true := decide_eq_true hiI
              have hbm := byt_of s q hin
              have hbr := byt_range s q
              have HDD := Hid.mk7 (HD.out hin)
              rw [hbm] at HDD hbr
              clear hbm HD HC
              by_cases hten : ((s[q].toNat : Int) == 10) = true
              · have HN := Hid.mk7 (HDD.out.1 (by simpa using hten))
                clear HDD
                go_wp2
                go_roundw
                case rel => exact ⟨q + 1, k, (q : Int) + 1, by go_num, rfl, by go_num, by omega, fun _ => HN.out, fun e => by omega, trivial⟩
                case measure => simp [intOf]; omega
              · have hten2 : ((s[q].toNat : Int) == 10) = false := by simpa using hten
                have HN := Hid.mk7 (HDD.out.2 (by simpa using hten))
                clear HDD hten
                go_wp2
                go_roundw
                case rel => exact ⟨q + 1, k, fr, rfl, rfl, by go_num, by omega, fun _ => HN.out, fun e => by omega, trivial⟩
                case measure => simp [intOf]; omega
            · have hqe : q = s.size := by omega
              have hkk := Hid.mk7 (HC.out hqe)
              have ds : decide ((q : Int) < (s.size : Int)) = false := decide_eq_false (by omega)
              have ds2 : decide (q < s.size) = false := decide_eq_false hin
              clear HC HD hqe
              go_wp2
              go_roundw
              case rel => exact ⟨q + 1, k, fr, rfl, rfl, by go_num, by omega, fun e => by omega, fun _ => hkk.out, trivial⟩
              case measure => simp [intOf]; omega
        · have HD1 := Hid.mk7 hD1
          have HD2 := Hid.mk7 hD2
          obtain ⟨g, o, hga, c0⟩ := nat_cell A3.out hget
          subst hga
          have hkl : k < R.length := (List.getElem?_eq_some_iff.1 hget).1
          have dk : decide ((k : Int) < (R.length : Int)) = true := decide_eq_true (by omega)
          have dk2 : decide (k < R.length) = true := decide_eq_true hkl
          have dy : ((q : Int) == (q : Int)) = true := by simp
          have dz : decide ((q : Int) - fr + (z : Int) ≤ wv) = false := decide_eq_false (by omega)
          have HEG := Hid.mk7 (fun W => refedge_any s (q : Int) W (by unfold maxLen; omega))
          have HSZ := Hid.mk7 (fun W => refsize_any s (q : Int) W (by unfold maxLen; omega))
          rw [hedg] at HEG
          rw [hz] at HSZ
          have dw0 : decide (wv < (q : Int) - (q : Int)) = false := decide_eq_false (by omega)
          have dw1 : decide (wv < 0) = false := decide_eq_false (by omega)
          have hiI : (q : Int) < s.size := by omega
          have hiN : q < s.size := hin
          have ds : decide ((q : Int) < (s.size : Int)) = true := decide_eq_true hiI
          have hbm := byt_of s q hin
          have hbr := byt_range s q
          rw [hbm] at HD1 HD2 hbr
          clear hD1 hD2 hget hedg hz HF HE hzw hbm hiN
          by_cases hten : ((s[q].toNat : Int) == 10) = true
          · have HN := Hid.mk7 (HD1.out (by simpa using hten))
            clear HD1 HD2
            go_wp2_with fail
            refine (HEG.out _).mono ?_
            rintro e w5 ⟨rfl, rfl⟩
            go_wp2_with fail
            refine (HSZ.out _).mono ?_
            rintro e w6 ⟨rfl, rfl⟩
            go_wp2
            go_roundw
            case rel => exact ⟨q + 1, k + 1, (q : Int) + 1, by go_num, by go_num, by go_num, by omega, fun _ => HN.out, fun e => by omega, trivial⟩
            case measure => simp [intOf]; omega
          · have hten2 : ((s[q].toNat : Int) == 10) = false := by simpa using hten
            have HN := Hid.mk7 (HD2.out (by simpa using hten))
            clear HD1 HD2 hten
            go_wp2_with fail
            refine (HEG.out _).mono ?_
            rintro e w5 ⟨rfl, rfl⟩
            go_wp2_with fail
            refine (HSZ.out _).mono ?_
            rintro e w6 ⟨rfl, rfl⟩
            go_wp2
            go_roundw
            case rel => exact ⟨q + 1, k + 1, (q : Int), rfl, by go_num, by go_num, by omega, fun _ => HN.out, fun e => by omega, trivial⟩
            case measure => simp [intOf]; omega
      · have dq : decide ((q : Int) ≤ (s.size : Int)) = false := decide_eq_false (by omega)
        have dq2 : decide (q ≤ s.size) = false := decide_eq_false hqs
        obtain rfl : k = R.length := HE.out (by omega)
        clear HF HE
        go_wp2
        go_ret
        exact ⟨rfl, G3.out⟩
end Go.Proofs.YtafhogfbjklboaaDoor
