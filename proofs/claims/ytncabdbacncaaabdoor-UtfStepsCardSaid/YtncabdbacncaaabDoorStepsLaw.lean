/- UtfSteps, walked: it answers true at every text. -/
import Derived.Test.YtncabdbacncaaabDoorKnown
import Derived.Test.YtncabdbacncaaabDoorSteps
namespace Go.Proofs.YtncabdbacncaaabDoor
open Go.RowKit Go.Sort

set_option maxHeartbeats 1000000 in
set_option maxRecDepth 100000 in
theorem steps_long (s : ByteArray) (hs : s.size ≤ maxLen) (hlong : 150 < s.size) (w : World) (tb : Nat × Nat) (hT : Tab w tb) :
    Calls Tryd.prog 3 #[.string s] w fun e w' => e = .returned (.bool true) ∧ Below w.heap.size w w' := by
  unfold maxLen at hs
  have hl : (150 : Int) < s.size := by omega
  go_enter Tryd.func3, Tryd.ntmps3
  go_wp2_with fail
  refine (known_any _ tb hT).mono ?_
  rintro e w1 ⟨rfl, b1⟩
  go_wp2
  go_ret
  exact ⟨rfl, b1⟩

set_option maxHeartbeats 1000000 in
set_option maxRecDepth 100000 in
theorem steps_bad (s : ByteArray) (hlong : s.size ≤ 150) (hv : vld s.data.toList = false) (w : World) (tb : Nat × Nat) (hT : Tab w tb) :
    Calls Tryd.prog 3 #[.string s] w fun e w' => e = .returned (.bool true) ∧ Below w.heap.size w w' := by
  have hd : decide ((150 : Int) < s.size) = false := by simp; omega
  have hcv := fun W => valid_any s W tb (by unfold maxLen; omega)
  rw [hv] at hcv
  have HC : Hid (∀ W, Tab W tb → Calls Tryd.prog 6 #[.string s] W fun e w' => e = .returned (.bool false) ∧ Below W.heap.size W w') := hcv
  clear hcv hv
  go_enter Tryd.func3, Tryd.ntmps3
  go_wp2_with fail
  refine (known_any _ tb hT).mono ?_
  rintro e w1 ⟨rfl, b1⟩
  have t1 := hT.later b1
  go_wp2_with fail
  refine (HC.out _ t1).mono ?_
  rintro e w2 ⟨rfl, b2⟩
  go_wp2
  go_ret
  exact ⟨rfl, b1.trans (b2.mono b1.size)⟩

set_option maxHeartbeats 2000000 in
set_option maxRecDepth 100000 in
theorem steps_good (s : ByteArray) (hlong : s.size ≤ 150) (hv : vld s.data.toList = true) (w : World) (tb : Nat × Nat) (hT : Tab w tb) :
    Calls Tryd.prog 3 #[.string s] w fun e w' => e = .returned (.bool true) ∧ Below w.heap.size w w' := by
  have hmax : s.size ≤ maxLen := by unfold maxLen; omega
  have hd : decide ((150 : Int) < s.size) = false := by simp; omega
  have HC : Hid (∀ W, Tab W tb → Calls Tryd.prog 6 #[.string s] W fun e w' => e = .returned (.bool true) ∧ Below W.heap.size W w') := by
    intro W h
    have := valid_any s W tb hmax h
    rwa [hv] at this
  have HF : Hid (s.data.toList = flat (pts s.data.toList)) := (flat_pts' hv).symm
  have HG : Hid (Good (pts s.data.toList)) := good_pts' _
  clear hv
  go_enter Tryd.func3, Tryd.ntmps3
  go_wp2_with fail
  refine (known_any _ tb hT).mono ?_
  rintro e w1 ⟨rfl, b1⟩
  have t1 := hT.later b1
  go_wp2_with fail
  refine (HC.out _ t1).mono ?_
  rintro e w2 ⟨rfl, b2⟩
  have t2 := t1.later b2
  have b12 := b1.trans (b2.mono b1.size)
  go_wp2
  go_loopw [3, 4] (fun a n wr => ∃ (cs1 cs2 : List Int), Hid (pts s.data.toList = cs1 ++ cs2) ∧ a = .int .i64 ((flat cs1).length : Nat) ∧ n = .int .i64 (cs1.length : Nat) ∧ Below w2.heap.size w2 wr) (fun a _ _ => s.size - (intOf a).toNat)
  case atStart => exact ⟨[], pts s.data.toList, rfl, rfl, rfl, Below.refl _ _⟩
  case round =>
    obtain ⟨cs1, cs2, HP, rfl, rfl, hb⟩ := hrel
    have tr := t2.later hb
    have hsplit : Hid (s.data.toList = flat cs1 ++ flat cs2) := by
      show s.data.toList = _
      rw [← flat_append, ← HP.out]; exact HF.out
    have hgood : Hid (Good (cs1 ++ cs2)) := by
      show Good _
      rw [← HP.out]; exact HG.out
    have hg1 : Hid (Good cs1) := fun x hx => hgood.out x (List.mem_append.2 (Or.inl hx))
    have hg2 : Hid (Good cs2) := fun x hx => hgood.out x (List.mem_append.2 (Or.inr hx))
    have hsz := split_size hsplit.out
    cases cs2 with
    | cons c cs3 =>
      have hel := enc_length c
      have hfl : (flat (c :: cs3)).length = (enc c).length + (flat cs3).length := by rw [flat_cons, List.length_append]
      have hlt : (flat cs1).length < s.size := by omega
      have hcl := (flat_length_ge cs1).1
      have hc1 := size_in s (flat cs1).length wr tb hmax hlt tr
      rw [sz_start hsplit.out hg2.out.head] at hc1
      have HB : Hid (∀ W, Tab W tb → Calls Tryd.prog 8 #[.string s, .int .i64 (((flat cs1).length : Nat) + ((enc c).length : Nat))] W fun e w' => e = .returned (.int .i64 ((flat cs1).length : Nat)) ∧ Below W.heap.size W w') := by
        intro W h
        have := back_any s (((flat cs1).length + (enc c).length : Nat) : Int) W tb hmax h
        rw [back_start hsplit.out hg1.out hg2.out] at this
        rw [Int.natCast_add] at this
        exact this
      have HP2 : Hid (pts s.data.toList = (cs1 ++ [c]) ++ cs3) := by show pts s.data.toList = _; rw [HP.out]; simp
      have HL2 : Hid ((flat (cs1 ++ [c])).length = (flat cs1).length + (enc c).length) := by show _ = _; rw [flat_append, List.length_append]; simp [flat]
      have HL3 : Hid ((cs1 ++ [c]).length = cs1.length + 1) := by show _ = _; simp
      have hle : (flat cs1).length + (enc c).length ≤ s.size := by omega
      clear hgood hg1 hg2 hsplit HP hfl hsz
      generalize hE : (enc c).length = k at *
      generalize hF1 : (flat cs1).length = i at *
      generalize hN1 : cs1.length = m at *
      clear hE hF1 hN1
      go_wp2_with (go_at_call 7; refine hc1.mono ?_; rintro e w3 ⟨rfl, b3⟩)
      have t3 := tr.later b3
      refine (HB.out _ t3).mono ?_
      rintro e w4 ⟨rfl, b4⟩
      go_wp2
      go_roundw
      case rel =>
        refine ⟨cs1 ++ [c], cs3, HP2, ?_, ?_, (hb.trans (b3.mono hb.size)).trans (b4.mono (Nat.le_trans hb.size b3.size))⟩
        · rw [HL2.out]; go_num
        · rw [HL3.out]; go_num
      case measure => simp [intOf]; omega
    | nil =>
      have hend : (flat cs1).length = s.size := by simp [flat_nil] at hsz; omega
      have HPn : Hid (pts s.data.toList = cs1) := by have := HP.out; rw [List.append_nil] at this; exact this
      rw [hend]
      clear hgood hg1 hg2 hsplit HP hsz hend
      have HB0 : Hid (∀ W, Tab W tb → Calls Tryd.prog 8 #[.string s, .int .i64 0] W fun e w' => e = .returned (.int .i64 0) ∧ Below W.heap.size W w') := by
        intro W h
        have := back_any s 0 W tb hmax h
        rwa [back_zero s 0 (by omega)] at this
      have HS1 : Hid (∀ W, Tab W tb → Calls Tryd.prog 7 #[.string s, .int .i64 (s.size : Nat)] W fun e w' => e = .returned (.int .i64 0) ∧ Below W.heap.size W w') := by
        intro W h
        have := size_any s (s.size : Nat) W tb hmax h
        rwa [szAt_end] at this
      have HS2 : Hid (∀ W, Tab W tb → Calls Tryd.prog 7 #[.string s, .int .i64 (-1)] W fun e w' => e = .returned (.int .i64 0) ∧ Below W.heap.size W w') := by
        intro W h
        have := size_any s (-1) W tb hmax h
        rwa [szAt_neg s (-1) (by omega)] at this
      have HPt : Hid (∀ W, Tab W tb → Calls Tryd.prog 9 #[.string s] W fun e w' => ∃ v, e = .returned v ∧ IntsAt w' v cs1 ∧ Below W.heap.size W w') := by
        intro W h
        have := points_any s W tb (by omega) h
        rwa [HPn.out] at this
      clear HPn HF HG HC
      go_wp2_with fail
      refine (HPt.out _ tr).mono ?_
      rintro e w3 ⟨v, rfl, hv, b3⟩
      have t3 := tr.later b3
      rcases hv with ⟨rfl, rfl⟩ | ⟨blk, off, cap, rfl, _⟩
      all_goals
        go_wp2_with fail
        refine (HB0.out _ t3).mono ?_
        rintro e w4 ⟨rfl, b4⟩
        have t4 := t3.later b4
        go_wp2_with fail
        refine (HS1.out _ t4).mono ?_
        rintro e w5 ⟨rfl, b5⟩
        have t5 := t4.later b5
        go_wp2_with fail
        refine (HS2.out _ t5).mono ?_
        rintro e w6 ⟨rfl, b6⟩
        go_wp2
        go_ret
        have g0 := b12.trans (hb.mono b12.size)
        have g1 := g0.trans (b3.mono g0.size)
        have g2 := g1.trans (b4.mono g1.size)
        have g3 := g2.trans (b5.mono g2.size)
        exact ⟨rfl, g3.trans (b6.mono g3.size)⟩

theorem steps_any (s : ByteArray) (hs : s.size ≤ maxLen) (w : World) (tb : Nat × Nat) (hT : Tab w tb) :
    Calls Tryd.prog 3 #[.string s] w fun e w' => e = .returned (.bool true) ∧ Below w.heap.size w w' := by
  by_cases hl : s.size ≤ 150
  · cases hv : vld s.data.toList with
    | false => exact steps_bad s hl hv w tb hT
    | true => exact steps_good s hl hv w tb hT
  · exact steps_long s hs (by omega) w tb hT
end Go.Proofs.YtncabdbacncaaabDoor
