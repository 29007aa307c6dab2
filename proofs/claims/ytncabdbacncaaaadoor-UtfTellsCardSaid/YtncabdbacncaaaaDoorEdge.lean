/- utf.IsEdge and utf.Back, walked. -/
import Derived.Test.YtncabdbacncaaaaDoorValid
namespace Go.Proofs.YtncabdbacncaaaaDoor
open Go.RowKit Go.Sort

/-- IsEdge. -/
def edg (s : ByteArray) (a : Int) : Bool := (decide (a = (s.size : Int)) || decide (0 < szAt s a)) && vld s.data.toList
/-- Back's way down. -/
def bkF (s : ByteArray) : Nat → Int
  | 0 => 0
  | j + 1 => if szN s (j + 1) = 0 then bkF s j else ((j + 1 : Nat) : Int)
/-- Back. -/
def bk (s : ByteArray) (a : Int) : Int := if a ≤ 0 ∨ edg s a = false then a else bkF s (a - 1).toNat

set_option maxHeartbeats 400000 in
/-- utf.IsEdge. -/
theorem edge_any (s : ByteArray) (a : Int) (w : World) (tb : Nat × Nat) (hs : s.size ≤ maxLen) (hT : Tab w tb) :
    Calls Tryd.prog 20 #[.string s, .int .i64 a] w fun e w' => e = .returned (.bool (edg s a)) ∧ Below w.heap.size w w' := by
  by_cases he : a = (s.size : Int)
  · have e1 : edg s a = vld s.data.toList := by unfold edg; simp [he]
    rw [e1]
    have hq : (a == (s.size : Int)) = true := by simpa using he
    clear e1 he
    go_enter Tryd.func20, Tryd.ntmps20
    go_wp2_with (go_at_call 16; refine (valid_any s _ tb hs ?_).mono ?_)
    · exact hT
    · rintro e w1 ⟨rfl, hb1⟩
      go_wp2
      go_ret
      exact ⟨rfl, hb1⟩
  · have hq : (a == (s.size : Int)) = false := by simpa using he
    by_cases hz : 0 < szAt s a
    · have e1 : edg s a = vld s.data.toList := by unfold edg; simp [hz]
      rw [e1]
      clear e1 he
      have hc := size_any s a w tb hs hT
      generalize szAt s a = z at *
      go_enter Tryd.func20, Tryd.ntmps20
      go_wp2_with (go_at_call 14; refine hc.mono ?_; rintro e w1 ⟨rfl, hb1⟩)
      have hT1 := hT.later hb1
      refine (valid_any s _ tb hs ?_).mono ?_
      · exact hT1
      · rintro e w2 ⟨rfl, hb2⟩
        go_wp2
        go_ret
        exact ⟨rfl, hb1.trans (hb2.mono hb1.size)⟩
    · have e1 : edg s a = false := by unfold edg; simp [hz, he]
      rw [e1]
      clear e1 he
      have hc := size_any s a w tb hs hT
      have hd : decide (0 < szAt s a) = false := by simpa using hz
      generalize szAt s a = z at *
      go_enter Tryd.func20, Tryd.ntmps20
      go_wp2_with (go_at_call 14; refine hc.mono ?_; rintro e w1 ⟨rfl, hb1⟩)
      go_ret
      exact ⟨rfl, hb1⟩

theorem szAt_nat (s : ByteArray) (i : Nat) : szAt s (i : Int) = szN s i := by unfold szAt; rw [if_pos (by omega), Int.toNat_natCast]
theorem valid_first (s : ByteArray) (hv : vld s.data.toList = true) (h : 0 < s.size) : szN s 0 ≠ 0 := by
  intro e
  rw [szN_eq, List.drop_zero] at e
  have hne := drop_ne s 0 h
  rw [List.drop_zero] at hne
  rw [vld_bad hne e] at hv
  cases hv
theorem edg_le (s : ByteArray) (a : Int) (h : edg s a = true) (h0 : 0 ≤ a) : a ≤ s.size ∧ vld s.data.toList = true := by
  unfold edg at h
  simp only [Bool.and_eq_true, Bool.or_eq_true, decide_eq_true_eq] at h
  refine ⟨?_, h.2⟩
  rcases h.1 with h1 | h1
  · omega
  · unfold szAt szN at h1
    rw [if_pos h0] at h1
    split at h1
    · omega
    · omega

set_option maxHeartbeats 400000 in
/-- utf.Back. -/
theorem back_any (s : ByteArray) (a : Int) (w : World) (tb : Nat × Nat) (hs : s.size ≤ maxLen) (hT : Tab w tb) :
    Calls Tryd.prog 10 #[.string s, .int .i64 a] w fun e w' => e = .returned (.int .i64 (bk s a)) ∧ Below w.heap.size w w' := by
  have hmax := hs
  unfold maxLen at hs
  by_cases h0 : a ≤ 0
  · have e1 : bk s a = a := by unfold bk; rw [if_pos (Or.inl h0)]
    rw [e1]
    clear e1
    go_enter Tryd.func10, Tryd.ntmps10
    go_wp2
    go_ret
    exact ⟨rfl, Below.refl _ _⟩
  · have hd0 : decide (a ≤ 0) = false := by simpa using h0
    have hc := edge_any s a w tb hmax hT
    by_cases he : edg s a = true
    · have e1 : bk s a = bkF s (a - 1).toNat := by unfold bk; rw [if_neg (by rw [he]; simp; omega)]
      rw [e1]
      obtain ⟨hle, hv⟩ := edg_le s a he (by omega)
      have hz0 := valid_first s hv (by omega)
      rw [he] at hc
      clear e1 he hv
      have HZ : Hid (szN s 0 ≠ 0) := hz0
      clear hz0
      go_enter Tryd.func10, Tryd.ntmps10
      go_wp2_with (go_at_call 20; refine hc.mono ?_; rintro e w1 ⟨rfl, hb1⟩)
      go_loopw [1] (fun j wr => ∃ k : Nat, (k : Int) < s.size ∧ j = .int .i64 k ∧ Below w.heap.size w wr ∧ Hid (bkF s k = bkF s (a - 1).toNat)) (fun j _ => (intOf j).toNat)
      case atStart => exact ⟨(a - 1).toNat, by omega, by go_num, hb1, rfl⟩
      case round =>
        obtain ⟨k, hk, rfl, hb, HK⟩ := hrel
        have hT2 := hT.later hb
        have hcs := size_in s k wr tb hmax (by omega) hT2
        by_cases hzk : szN s k = 0
        · have hk0 : 0 < k := by
            rcases Nat.eq_zero_or_pos k with e | e
            · subst e; exact absurd hzk HZ.out
            · exact e
          rw [hzk] at hcs
          have HK2 : Hid (bkF s (k - 1) = bkF s (a - 1).toNat) := by
            refine Eq.trans ?_ HK.out
            obtain ⟨j, rfl⟩ : ∃ j, k = j + 1 := ⟨k - 1, by omega⟩
            show bkF s j = bkF s (j + 1)
            conv => rhs; unfold bkF
            rw [if_pos hzk]
          clear hzk HK
          go_wp2_with (go_at_call 14; refine hcs.mono ?_; rintro e w2 ⟨rfl, hb2⟩)
          go_roundw
          case rel => exact ⟨k - 1, by omega, by go_num, hb.trans (hb2.mono hb.size), HK2⟩
          case measure => simp [intOf]; omega
        · have hq : (szN s k == 0) = false := by simpa using hzk
          have HK2 : Hid (bkF s (a - 1).toNat = k) := by
            refine HK.out.symm.trans ?_
            cases k with
            | zero => rfl
            | succ j => unfold bkF; rw [if_neg hzk]
          clear hzk HK
          generalize szN s k = z at *
          go_wp2_with (go_at_call 14; refine hcs.mono ?_; rintro e w2 ⟨rfl, hb2⟩)
          go_ret
          exact ⟨ret_int HK2.out.symm, hb.trans (hb2.mono hb.size)⟩
    · have he' : edg s a = false := by simpa using he
      have e1 : bk s a = a := by unfold bk; rw [if_pos (Or.inr he')]
      rw [e1]
      rw [he'] at hc
      clear e1 he he'
      go_enter Tryd.func10, Tryd.ntmps10
      go_wp2_with (go_at_call 20; refine hc.mono ?_; rintro e w1 ⟨rfl, hb1⟩)
      go_ret
      exact ⟨rfl, hb1⟩
end Go.Proofs.YtncabdbacncaaaaDoor
