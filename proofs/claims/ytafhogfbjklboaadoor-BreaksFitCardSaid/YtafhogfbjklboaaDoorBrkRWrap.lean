/- The reference's Wrap. -/
import Derived.Test.YtafhogfbjklboaaDoorBrkWrap
import Derived.Test.YtafhogfbjklboaaDoorBrkPut
import Derived.Test.YtafhogfbjklboaaDoorRefPoints
namespace Go.Proofs.YtafhogfbjklboaaDoor
open Go.RowKit Go.Sort
set_option linter.unusedSimpArgs false
set_option linter.unusedVariables false

theorem getD_mid16 (a : List Int) (c : Int) (b : List Int) : (a ++ c :: b).getD a.length 0 = c := by simp [List.getD_eq_getElem?_getD]
theorem enc_ten16 {c : Int} (h : scalar c) : ((cacc (enc c)).toList == [10]) = decide (c = 10) := by
  have e : (cacc (enc c)).toList = enc c := by rw [Lib.toList_data]; rfl
  rw [e]
  by_cases h0 : c = 10
  · subst h0; decide
  · rw [decide_eq_false h0]
    simp only [beq_eq_false_iff_ne, ne_eq]
    intro e
    have h1 := (sz1_enc c h []).2
    rw [List.append_nil, e] at h1
    exact h0 (h1.symm.trans (by decide))
set_option maxHeartbeats 16000000 in
set_option maxRecDepth 100000 in
theorem rwrap_any16 (s : ByteArray) (width : Int) (w : World) (hs : s.size ≤ 100000) (hw : width ≤ 9223372036854775807) :
    Calls Tryd.prog 22 #[.string s, .int .i64 width] w fun e w' => ∃ v', e = .returned (.tuple #[v', .int .i64 (wrE width s.data.toList)]) ∧ NAt w' v' (wrR width s.data.toList) ∧ Below w.heap.size w w' := by
  have HVS := Hid.mk7 (refvalid_any s w (by unfold maxLen; omega))
  cases hv : vld s.data.toList with
  | false =>
    rw [hv] at HVS
    obtain ⟨e1, e2⟩ := wr_bad (w := width) (T := s.data.toList) (by simp [hv])
    have E1 := Hid.mk7 e1
    have E2 := Hid.mk7 e2
    clear e1 e2 hv
    go_enter Tryd.func22, Tryd.ntmps22
    go_wp2_with fail
    refine HVS.out.mono ?_
    rintro e w1 ⟨rfl, rfl⟩
    go_wp2
    go_ret2
    exact ⟨_, tup16 E1.out.symm, nat_nil' E2.out, Below.refl _ _⟩
  | true =>
    rw [hv] at HVS
    by_cases h4 : width < 4
    · have d4 : decide (width < 4) = true := decide_eq_true h4
      obtain ⟨e1, e2⟩ := wr_bad (w := width) (T := s.data.toList) (fun h => by omega)
      have E1 := Hid.mk7 e1
      have E2 := Hid.mk7 e2
      clear e1 e2 hv
      go_enter Tryd.func22, Tryd.ntmps22
      go_wp2_with fail
      refine HVS.out.mono ?_
      rintro e w1 ⟨rfl, rfl⟩
      go_wp2
      go_ret2
      exact ⟨_, tup16 E1.out.symm, nat_nil' E2.out, Below.refl _ _⟩
    have d4 : decide (width < 4) = false := decide_eq_false h4
    obtain ⟨e1, e2⟩ := wr_ok (w := width) (T := s.data.toList) ⟨hv, by omega⟩
    have HPT := Hid.mk7 (refpoints_own s w hs)
    obtain ⟨cs, hcs⟩ : ∃ cs, pts s.data.toList = cs := ⟨_, rfl⟩
    have HG : Hid (Good cs) := by show Good cs; rw [← hcs]; exact good_pts' _
    have HF : Hid (s.data.toList = flat cs) := by show _ = _; rw [← hcs]; exact (flat_pts' hv).symm
    rw [hcs] at e2 HPT
    generalize wrE width s.data.toList = er at *
    generalize wrR width s.data.toList = R at *
    have E1 := Hid.mk7 e1
    have E2 := Hid.mk7 e2
    have hsz : s.data.toList.length = s.size := bytes_length s
    have HFS : Hid ((flat cs).length ≤ 100000) := by show _ ≤ _; rw [← HF.out, hsz]; exact hs
    have hcl : cs.length ≤ 100000 := Nat.le_trans (flat_length_ge cs).1 HFS.out
    clear e1 e2 hv hcs hsz HF
    go_enter Tryd.func22, Tryd.ntmps22
    go_wp2_with fail
    refine HVS.out.mono ?_
    rintro e w1 ⟨rfl, rfl⟩
    clear HVS
    go_wp2_with fail
    refine HPT.out.mono ?_
    rintro e w2 ⟨v, rfl, hown, b2⟩
    obtain ⟨ad, cap, rfl⟩ := strs_shape hown
    have HOW := Hid.mk7 hown
    have HB := Hid.mk7 b2
    clear b2 hown HPT
    go_wp2
    go_loopw [7, 8, 9, 10] (fun lv nv av iv wr => ∃ (c1 c2 M : List Int) (n : Int), Hid (cs = c1 ++ c2) ∧ Hid (OwnZ wr w2.heap.size lv M) ∧ nv = .int .i64 n ∧ av = .int .i64 ((flat c1).length : Nat) ∧ iv = .int .i64 (c1.length : Nat) ∧ 0 ≤ n ∧ n ≤ (flat c1).length ∧ M.length ≤ 60 ∧ Hid (R = M ++ wrL width (60 - M.length) n ((flat c1).length : Nat) c2) ∧ Hid (Below w2.heap.size w2 wr)) (fun _ _ _ iv _ => cs.length - (intOf iv).toNat)
    case atStart => exact ⟨[], cs, [], 0, rfl, OwnZ.nil _ _, rfl, rfl, rfl, Int.le_refl _, Int.le_refl _, by simp, E2.out, Below.refl _ _⟩
    case round =>
      obtain ⟨c1, c2, M, n, HP, HO, rfl, rfl, rfl, hn0, hn1, hM, HR, HBW⟩ := hrel
      have hlen : cs.length = c1.length + c2.length := by rw [HP.out, List.length_append]
      cases c2 with
      | nil =>
        have HE := Hid.mk7 (wr_end HR.out)
        have hlen2 : cs.length = c1.length := by simpa using hlen
        have dl : decide ((c1.length : Int) < (cs.length : Int)) = false := decide_eq_false (by omega)
        obtain ⟨ma, mc, hma, _⟩ := HO.out.shape
        subst hma
        have HB2 := Hid.mk7 (below_old HB.out HBW.out)
        clear HR hlen
        go_wp2
        go_ret2
        exact ⟨_, tup16 E1.out.symm, by rw [HE.out]; exact HO.out.num, HB2.out⟩
      | cons c c3 =>
        have hsc : scalar c := HG.out c (by rw [HP.out]; simp)
        have hlt : c1.length < cs.length := by rw [hlen]; simp
        have dl : decide ((c1.length : Int) < (cs.length : Int)) = true := decide_eq_true (by omega)
        have hne : cs ≠ [] := by intro e; rw [e] at hlt; simp at hlt
        obtain ⟨gs, caps, hv, hcells⟩ := strs_cells HOW.out hne
        injection hv with hv1 hv2 hv3
        subst hv1
        have q0 := hcells c1.length hlt
        rw [HP.out, getD_mid16, Nat.zero_add] at q0
        have HQ := Hid.mk7 q0
        have HFL : Hid ((flat (c1 ++ [c])).length = (flat c1).length + (cacc (enc c)).size) := by show _ = _; rw [flat_append, List.length_append, cacc_size]; simp [flat]
        have hqs : (flat c1).length + (cacc (enc c)).size ≤ 100000 := by
          have h := HFS.out
          rw [HP.out, flat_append, flat_cons, List.length_append, List.length_append] at h
          rw [cacc_size]; omega
        have HP2 : Hid (cs = (c1 ++ [c]) ++ c3) := by show _ = _; rw [HP.out]; simp
        have HTN := Hid.mk7 (enc_ten16 hsc)
        have HL1 : Hid ((c1 ++ [c]).length = c1.length + 1) := by show _ = _; simp
        have HBR := Hid.mk7 (fun h1 h2 => wrL_break HR.out h1 h2)
        have HFU := Hid.mk7 (fun (n' p' : Int) h => (wrL_full (n' := n') (p' := p') HR.out h).2)
        have HON := Hid.mk7 (fun h => wrL_on HR.out h)
        rw [← cacc_size (enc c)] at HBR HON
        have c0 := cell_later7 HBW.out (Nat.le_refl _) q0
        clear hsc HP HR q0 hcells hlen hne hv2 hv3
        generalize cacc (enc c) = S at *
        generalize (flat c1).length = q at *
        by_cases hw2 : width - n < (S.size : Int)
        · have dw : decide (width - n < (S.size : Int)) = true := decide_eq_true hw2
          by_cases hf : M.length < 60
          · have df : decide ((M.length : Int) < 60) = true := decide_eq_true (by omega)
            have df2 : decide (M.length < 60) = true := decide_eq_true hf
            have HE := Hid.mk7 (HBR.out (by omega) (by omega))
            obtain ⟨ma, mc, hma, _⟩ := HO.out.shape
            subst hma
            have hs2 := HBW.out.size
            clear hw2 HBR HFU HON
            go_wp2_with (at_builtin; refine wpList_append_row16 rfl _ _ rfl w2.heap.size _ _ M [(q : Int)] rfl (HO.out.alloc _) rfl (nat_one rfl _ _) (by omega) (by simp) (by simp; omega) ?_)
            intro v' w3 ho hgrow
            have HO3 := Hid.mk7 ho
            have HB3 := Hid.mk7 ((below16 HBW.out _).grown hgrow (by simp; omega) (fun k hk => (World.ownsRow.lt HO.out k hk).1))
            have c3' := cell_later7 HB3.out (Nat.le_refl _) HQ.out
            have hlen3 : (M ++ [(q : Int)]).length = M.length + 1 := by simp
            have HN3 : Hid (60 - (M ++ [(q : Int)]).length = 60 - M.length - 1) := by show _ = _; rw [hlen3]; omega
            clear ho hgrow HO HBW c0
            by_cases h10 : c = 10
            · have d10 : (S.toList == [10]) = true := by rw [HTN.out]; exact decide_eq_true h10
              have HE2 : Hid (R = (M ++ [(q : Int)]) ++ wrL width (60 - (M ++ [(q : Int)]).length) 0 ((q + S.size : Nat) : Int) c3) := by show _ = _; have := HE.out; rw [if_pos h10] at this; rw [HN3.out]; exact this
              clear h10 HTN
              go_wp2
              go_roundw
              case rel => exact ⟨c1 ++ [c], c3, M ++ [(q : Int)], 0, HP2, HO3, rfl, by rw [HFL.out]; go_num, by rw [HL1.out]; go_num, by omega, by rw [HFL.out]; omega, by rw [hlen3]; omega, by rw [HFL.out]; exact HE2, HB3⟩
              case measure => simp [intOf]; omega
            · have d10 : (S.toList == [10]) = false := by rw [HTN.out]; exact decide_eq_false h10
              have HE2 : Hid (R = (M ++ [(q : Int)]) ++ wrL width (60 - (M ++ [(q : Int)]).length) (S.size : Nat) ((q + S.size : Nat) : Int) c3) := by show _ = _; have := HE.out; rw [if_neg h10] at this; rw [HN3.out]; exact this
              clear h10 HTN
              go_wp2
              go_roundw
              case rel => exact ⟨c1 ++ [c], c3, M ++ [(q : Int)], (S.size : Nat), HP2, HO3, rfl, by rw [HFL.out]; go_num, by rw [HL1.out]; go_num, by omega, by rw [HFL.out]; omega, by rw [hlen3]; omega, by rw [HFL.out]; exact HE2, HB3⟩
              case measure => simp [intOf]; omega
          · have df : decide ((M.length : Int) < 60) = false := decide_eq_false (by omega)
            have df2 : decide (M.length < 60) = false := decide_eq_false hf
            have HE := Hid.mk7 (fun (n' p' : Int) => HFU.out n' p' (by omega))
            obtain ⟨ma, mc, hma, _⟩ := HO.out.shape
            subst hma
            clear hw2 HBR HFU HON
            by_cases h10 : c = 10
            · have d10 : (S.toList == [10]) = true := by rw [HTN.out]; exact decide_eq_true h10
              have HE2 : Hid (R = M ++ wrL width (60 - M.length) 0 ((q + S.size : Nat) : Int) c3) := HE.out _ _
              clear h10 HTN
              go_wp2
              go_roundw
              case rel => exact ⟨c1 ++ [c], c3, M, 0, HP2, HO, rfl, by rw [HFL.out]; go_num, by rw [HL1.out]; go_num, by omega, by rw [HFL.out]; omega, hM, by rw [HFL.out]; exact HE2, HBW⟩
              case measure => simp [intOf]; omega
            · have d10 : (S.toList == [10]) = false := by rw [HTN.out]; exact decide_eq_false h10
              have HE2 : Hid (R = M ++ wrL width (60 - M.length) (S.size : Nat) ((q + S.size : Nat) : Int) c3) := HE.out _ _
              clear h10 HTN
              go_wp2
              go_roundw
              case rel => exact ⟨c1 ++ [c], c3, M, (S.size : Nat), HP2, HO, rfl, by rw [HFL.out]; go_num, by rw [HL1.out]; go_num, by omega, by rw [HFL.out]; omega, hM, by rw [HFL.out]; exact HE2, HBW⟩
              case measure => simp [intOf]; omega
        · have dw : decide (width - n < (S.size : Int)) = false := decide_eq_false hw2
          have HE := Hid.mk7 (HON.out (by omega))
          clear hw2 HBR HFU HON
          by_cases h10 : c = 10
          · have d10 : (S.toList == [10]) = true := by rw [HTN.out]; exact decide_eq_true h10
            have HE2 : Hid (R = M ++ wrL width (60 - M.length) 0 ((q + S.size : Nat) : Int) c3) := by show _ = _; have := HE.out; rw [if_pos h10] at this; exact this
            clear h10 HTN
            go_wp2
            go_roundw
            case rel => exact ⟨c1 ++ [c], c3, M, 0, HP2, HO, rfl, by rw [HFL.out]; go_num, by rw [HL1.out]; go_num, by omega, by rw [HFL.out]; omega, hM, by rw [HFL.out]; exact HE2, HBW⟩
            case measure => simp [intOf]; omega
          · have d10 : (S.toList == [10]) = false := by rw [HTN.out]; exact decide_eq_false h10
            have HE2 : Hid (R = M ++ wrL width (60 - M.length) (n + (S.size : Nat)) ((q + S.size : Nat) : Int) c3) := by show _ = _; have := HE.out; rw [if_neg h10] at this; exact this
            clear h10 HTN
            go_wp2
            go_roundw
            case rel => exact ⟨c1 ++ [c], c3, M, (n + (S.size : Nat)), HP2, HO, rfl, by rw [HFL.out]; go_num, by rw [HL1.out]; go_num, by omega, by rw [HFL.out]; omega, hM, by rw [HFL.out]; exact HE2, HBW⟩
            case measure => simp [intOf]; omega
end Go.Proofs.YtafhogfbjklboaaDoor
