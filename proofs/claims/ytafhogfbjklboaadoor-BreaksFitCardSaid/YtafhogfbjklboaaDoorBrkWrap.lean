/- breaks.Wrap. -/
import Derived.Test.YtafhogfbjklboaaDoorBrkMem
import Derived.Test.YtafhogfbjklboaaDoorBrkUtf
import Derived.Lib.OthersKept
import Derived.WalkSmall
namespace Go.Proofs.YtafhogfbjklboaaDoor
open Go.RowKit Go.Sort
set_option linter.unusedSimpArgs false
set_option linter.unusedVariables false

theorem wr_end {M R : List Int} {w n p : Int} {k : Nat} (h : R = M ++ wrL w k n p []) : R = M := by rw [h, wrL_nil, List.append_nil]
set_option maxHeartbeats 8000000 in
set_option maxRecDepth 100000 in
theorem wrap_any16 (s : ByteArray) (width : Int) (w : World) (hs : s.size ≤ 1099511627776) (hU : UT w) :
    Calls Tryd.prog 21 #[.string s, .int .i64 width] w fun e w' => ∃ v', e = .returned (.tuple #[v', .int .i64 (wrE width s.data.toList)]) ∧ NAt w' v' (wrR width s.data.toList) ∧ Below w.heap.size w w' := by
  have HVS := Hid.mk7 (valid16 s w (by unfold maxLen; omega) hU)
  cases hv : vld s.data.toList with
  | false =>
    rw [hv] at HVS
    obtain ⟨e1, e2⟩ := wr_bad (w := width) (T := s.data.toList) (by simp [hv])
    have E1 := Hid.mk7 e1
    have E2 := Hid.mk7 e2
    clear e1 e2 hv hU
    go_enter Tryd.func21, Tryd.ntmps21
    go_wp2_with fail
    refine HVS.out.mono ?_
    rintro e w1 ⟨rfl, b1⟩
    have HB := Hid.mk7 b1
    clear b1
    go_wp2
    go_ret2
    exact ⟨_, tup16 E1.out.symm, nat_nil' E2.out, HB.out⟩
  | true =>
    rw [hv] at HVS
    by_cases h4 : width < 4
    · have d4 : decide (width < 4) = true := decide_eq_true h4
      obtain ⟨e1, e2⟩ := wr_bad (w := width) (T := s.data.toList) (fun h => by omega)
      have E1 := Hid.mk7 e1
      have E2 := Hid.mk7 e2
      clear e1 e2 hv hU
      go_enter Tryd.func21, Tryd.ntmps21
      go_wp2_with fail
      refine HVS.out.mono ?_
      rintro e w1 ⟨rfl, b1⟩
      have HB := Hid.mk7 b1
      clear b1
      go_wp2
      go_ret2
      exact ⟨_, tup16 E1.out.symm, nat_nil' E2.out, HB.out⟩
    have d4 : decide (width < 4) = false := decide_eq_false h4
    obtain ⟨e1, e2⟩ := wr_ok (w := width) (T := s.data.toList) ⟨hv, by omega⟩
    obtain ⟨cs, hcs⟩ : ∃ cs, pts s.data.toList = cs := ⟨_, rfl⟩
    have HG : Hid (Good cs) := by show Good cs; rw [← hcs]; exact good_pts' _
    have HF : Hid (s.data.toList = flat cs) := by show _ = _; rw [← hcs]; exact (flat_pts' hv).symm
    rw [hcs] at e2
    generalize wrE width s.data.toList = er at *
    generalize wrR width s.data.toList = R at *
    have E1 := Hid.mk7 e1
    have E2 := Hid.mk7 e2
    have hsz : s.data.toList.length = s.size := bytes_length s
    have HSZ := Hid.mk7 hsz
    clear e1 e2 hv hU hcs hsz
    go_enter Tryd.func21, Tryd.ntmps21
    go_wp2_with fail
    refine HVS.out.mono ?_
    rintro e w1 ⟨rfl, b1⟩
    have HB := Hid.mk7 b1
    have hs1 := b1.size
    clear b1 HVS
    go_wp2
    go_loopw [6, 7] (fun lv nv wr => ∃ (c1 c2 M : List Int) (n : Int), Hid (cs = c1 ++ c2) ∧ Hid (OwnZ wr (w1.heap.size + 1) lv M) ∧ wr.heap[w1.heap.size]? = some (.stringIter s (flat c1).length) ∧ nv = .int .i64 n ∧ 0 ≤ n ∧ n ≤ (flat c1).length ∧ M.length ≤ 60 ∧ Hid (R = M ++ wrL width (60 - M.length) n ((flat c1).length : Nat) c2) ∧ Below w.heap.size w wr) (fun _ _ wr => s.size - wr.iterPos w1.heap.size)
    case atStart =>
      refine ⟨[], cs, [], 0, rfl, OwnZ.nil _ _, World.iter_heap w1 _ 0, rfl, Int.le_refl _, Int.le_refl _, by simp, E2.out, HB.out.trans ?_⟩
      exact ((Below.refl _ w1).alloc (Nat.le_refl _) _).mono hs1
    case round =>
      obtain ⟨c1, c2, M, n, HP, HO, hit, rfl, hn0, hn1, hM, HR, hb⟩ := hrel
      have hsz : w1.heap.size < wr.heap.size := (Array.getElem?_eq_some_iff.1 hit).1
      cases c2 with
      | nil =>
        have hp : ¬ (flat c1).length < s.size := by
          have e := HF.out
          rw [HP.out, List.append_nil] at e
          rw [← HSZ.out, e]; omega
        have hnx : ∀ ty, (Instr.next (.pointer (some ⟨w1.heap.size, 0, none⟩)) true ty).run Tryd.prog wr = _ := fun ty => Lib.run_next_end_at wr w1.heap.size _ _ ty hit hp
        have HE := Hid.mk7 (wr_end HR.out)
        clear hp HR
        go_wp2
        go_ret2
        exact ⟨_, tup16 E1.out.symm, by rw [HE.out]; exact HO.out.num, hb⟩
      | cons c c3 =>
        have hsc : scalar c := HG.out c (by rw [HP.out]; simp)
        have hd : s.data.toList.drop (flat c1).length = enc c ++ flat c3 := by
          rw [HF.out, HP.out, flat_append, flat_cons]
          exact List.drop_left' rfl
        have hde := decode_enc s (flat c1).length c hsc (flat c3) hd
        have hel := enc_length c
        have hp : (flat c1).length + (enc c).length ≤ s.size := by
          have e := congrArg List.length hd
          rw [List.length_drop, List.length_append, HSZ.out] at e
          omega
        have hnx : ∀ ty, (Instr.next (.pointer (some ⟨w1.heap.size, 0, none⟩)) true ty).run Tryd.prog wr = .ok (.tuple #[.bool true, .int .i64 (flat c1).length, .int .i32 c]) (wr.iterAt w1.heap.size s ((flat c1).length + (enc c).length)) := by
          intro ty
          rw [Lib.run_next_any_at wr w1.heap.size _ _ ty hit (by omega), hde]
          unfold scalar at hsc
          simp only
          rw [Int.toNat_of_nonneg (by omega)]
        have hit2 := Lib.iterAt_heap wr w1.heap.size s (flat c1).length ((flat c1).length + (enc c).length) hit
        have hb2 := Lib.below_iterAt hb (k := w1.heap.size) hs1 s ((flat c1).length + (enc c).length)
        have HO2 : Hid (OwnZ (wr.iterAt w1.heap.size s ((flat c1).length + (enc c).length)) (w1.heap.size + 1) u6 M) := ownsRow_iterAt HO.out (k := w1.heap.size) (by omega) s ((flat c1).length + (enc c).length)
        have hsz2 : w1.heap.size < (wr.iterAt w1.heap.size s ((flat c1).length + (enc c).length)).heap.size := by rw [Lib.iterAt_size]; exact hsz
        have hm : Hid (wr.iterPos w1.heap.size = (flat c1).length) := iterPos_of hit
        have HFL : Hid ((flat (c1 ++ [c])).length = (flat c1).length + (enc c).length) := by show _ = _; rw [flat_append, List.length_append]; simp [flat]
        have HP2 : Hid (cs = (c1 ++ [c]) ++ c3) := by show _ = _; rw [HP.out]; simp
        have HRL := Hid.mk7 (fun W => rlen16 hsc W)
        clear hit hb HO hsz hde hd HP
        generalize wr.iterAt w1.heap.size s ((flat c1).length + (enc c).length) = wi at *
        generalize hz : (enc c).length = z at *
        generalize hq : (flat c1).length = q at *
        have hc32 : 0 ≤ c ∧ c ≤ 1114111 := by unfold scalar at hsc; omega
        clear hsc hq
        go_wp2_with fail
        refine (HRL.out _).mono ?_
        rintro e w2 ⟨rfl, rfl⟩
        by_cases hw : width < n + (z : Int)
        · have dw : decide (width < n + (z : Int)) = true := decide_eq_true hw
          by_cases hf : M.length = 60
          · have df : ((M.length : Int) == 60) = true := by simpa using (by omega : (M.length : Int) = 60)
            have HE := Hid.mk7 (wrL_full (n' := 0) (p' := 0) HR.out (by omega)).1
            obtain ⟨ma, mc, rfl, _⟩ := HO2.out.shape
            clear hf HR
            go_wp2
            go_ret2
            exact ⟨_, tup16 E1.out.symm, by rw [HE.out]; exact HO2.out.num, hb2⟩
          have df : ((M.length : Int) == 60) = false := by simpa using (by omega : ¬ (M.length : Int) = 60)
          have HE := Hid.mk7 (wrL_break HR.out (by rw [hz]; exact hw) (by omega))
          rw [hz] at HE
          have hM2 : M.length + 1 ≤ 60 := by omega
          obtain ⟨ma, mc, hma, _⟩ := HO2.out.shape
          subst hma
          clear hf HR
          go_wp2_with (at_builtin; refine wpList_append_row16 rfl _ _ rfl (w1.heap.size + 1) _ _ M [(q : Int)] rfl (HO2.out.alloc _) rfl (nat_one rfl _ _) (by omega) (by simp) (by simp; omega) ?_)
          intro v' w3 ho hgrow
          have HO3 := Hid.mk7 ho
          have hit3 : w3.heap[w1.heap.size]? = some (.stringIter s (q + z)) := by
            rw [hgrow.block w1.heap.size (by simp; omega) (fun e => by have := (World.ownsRow.lt HO2.out _ e.symm).1; omega)]
            rw [Below.heap_alloc _ _ _ hsz2]
            exact hit2
          have hb3 : Below w.heap.size w w3 := (hb2.alloc hb2.size _).grown hgrow (by have := hb2.size; simp; omega) (fun k hk => by have := (World.ownsRow.lt HO2.out _ hk).1; omega)
          have hlen3 : (M ++ [(q : Int)]).length = M.length + 1 := by simp
          have HN3 : Hid (60 - (M ++ [(q : Int)]).length = 60 - M.length - 1) := by show _ = _; rw [hlen3]; omega
          clear ho hgrow hit2 hb2 HO2
          go_wp2_with fail
          refine (HRL.out _).mono ?_
          rintro e w4 ⟨rfl, rfl⟩
          by_cases h10 : c = 10
          · have d10 : (c == 10) = true := by simpa using h10
            have HE2 : Hid (R = (M ++ [(q : Int)]) ++ wrL width (60 - (M ++ [(q : Int)]).length) 0 ((q + z : Nat) : Int) c3) := by show _ = _; have := HE.out; rw [if_pos h10] at this; rw [HN3.out]; exact this
            clear h10 HE
            go_wp2
            go_roundw
            case rel => exact ⟨c1 ++ [c], c3, M ++ [(q : Int)], 0, HP2, HO3, by rw [HFL.out]; exact hit3, rfl, Int.le_refl _, by omega, by rw [hlen3]; exact hM2, by rw [HFL.out]; exact HE2, hb3⟩
            case measure =>
              rw [iterPos_of hit3, hm.out]
              omega
          · have d10 : (c == 10) = false := by simpa using h10
            have HE2 : Hid (R = (M ++ [(q : Int)]) ++ wrL width (60 - (M ++ [(q : Int)]).length) (z : Nat) ((q + z : Nat) : Int) c3) := by show _ = _; have := HE.out; rw [if_neg h10] at this; rw [HN3.out]; exact this
            clear h10 HE
            go_wp2
            go_roundw
            case rel => exact ⟨c1 ++ [c], c3, M ++ [(q : Int)], (z : Nat), HP2, HO3, by rw [HFL.out]; exact hit3, rfl, by omega, by rw [HFL.out]; omega, by rw [hlen3]; exact hM2, by rw [HFL.out]; exact HE2, hb3⟩
            case measure =>
              rw [iterPos_of hit3, hm.out]
              omega
        · have dw : decide (width < n + (z : Int)) = false := decide_eq_false hw
          have HE := Hid.mk7 (wrL_on HR.out (by rw [hz]; exact hw))
          rw [hz] at HE
          clear HR
          by_cases h10 : c = 10
          · have d10 : (c == 10) = true := by simpa using h10
            have HE2 : Hid (R = M ++ wrL width (60 - M.length) 0 ((q + z : Nat) : Int) c3) := by show _ = _; have := HE.out; rw [if_pos h10] at this; exact this
            clear h10 HE
            go_wp2
            go_roundw
            case rel => exact ⟨c1 ++ [c], c3, M, 0, HP2, HO2, by rw [HFL.out]; exact hit2, rfl, Int.le_refl _, by omega, hM, by rw [HFL.out]; exact HE2, hb2⟩
            case measure =>
              rw [iterPos_of hit2, hm.out]
              omega
          · have d10 : (c == 10) = false := by simpa using h10
            have HE2 : Hid (R = M ++ wrL width (60 - M.length) (n + (z : Nat)) ((q + z : Nat) : Int) c3) := by show _ = _; have := HE.out; rw [if_neg h10] at this; exact this
            clear h10 HE
            go_wp2
            go_roundw
            case rel => exact ⟨c1 ++ [c], c3, M, n + (z : Nat), HP2, HO2, by rw [HFL.out]; exact hit2, rfl, by omega, by rw [HFL.out]; omega, hM, by rw [HFL.out]; exact HE2, hb2⟩
            case measure =>
              rw [iterPos_of hit2, hm.out]
              omega
end Go.Proofs.YtafhogfbjklboaaDoor
