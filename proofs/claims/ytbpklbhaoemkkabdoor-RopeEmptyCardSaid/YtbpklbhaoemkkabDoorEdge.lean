/- utf.IsEdge, walked; what Back answers. -/
import Derived.Test.YtbpklbhaoemkkabDoorValid
namespace Go.Proofs.YtbpklbhaoemkkabDoor
open Go.RowKit Go.Sort

/-- IsEdge. -/
def edg (s : ByteArray) (a : Int) : Bool := (decide (a = (s.size : Int)) || decide (0 < szAt s a)) && vld s.data.toList
/-- Back's way down. -/
def bkF (s : ByteArray) : Nat → Int
  | 0 => 0
  | j + 1 => if szN s (j + 1) = 0 then bkF s j else ((j + 1 : Nat) : Int)
/-- Back. -/
def bk (s : ByteArray) (a : Int) : Int := if a ≤ 0 ∨ edg s a = false then a else bkF s (a - 1).toNat

set_option maxHeartbeats 400000 in
/-- utf.IsEdge. -/
theorem edge_any (s : ByteArray) (a : Int) (w : World) (tb : Nat × Nat) (hs : s.size ≤ maxLen) (hT : Tab w tb) :
    Calls Tryd.prog 19 #[.string s, .int .i64 a] w fun e w' => e = .returned (.bool (edg s a)) ∧ Below w.heap.size w w' := by
  by_cases he : a = (s.size : Int)
  · have e1 : edg s a = vld s.data.toList := by unfold edg; simp [he]
    rw [e1]
    have hq : (a == (s.size : Int)) = true := by simpa using he
    clear e1 he
    go_enter Tryd.func19, Tryd.ntmps19
    go_wp2_with (go_at_call 33; refine (valid_any s _ tb hs ?_).mono ?_)
    · exact hT
    · rintro e w1 ⟨rfl, hb1⟩
      go_wp2
      go_ret
      exact ⟨rfl, hb1⟩
  · have hq : (a == (s.size : Int)) = false := by simpa using he
    by_cases hz : 0 < szAt s a
    · have e1 : edg s a = vld s.data.toList := by unfold edg; simp [hz]
      rw [e1]
      clear e1 he
      have hc := size_any s a w tb hs hT
      generalize szAt s a = z at *
      go_enter Tryd.func19, Tryd.ntmps19
      go_wp2_with (go_at_call 22; refine hc.mono ?_; rintro e w1 ⟨rfl, hb1⟩)
      have hT1 := hT.later hb1
      refine (valid_any s _ tb hs ?_).mono ?_
      · exact hT1
      · rintro e w2 ⟨rfl, hb2⟩
        go_wp2
        go_ret
        exact ⟨rfl, hb1.trans (hb2.mono hb1.size)⟩
    · have e1 : edg s a = false := by unfold edg; simp [hz, he]
      rw [e1]
      clear e1 he
      have hc := size_any s a w tb hs hT
      have hd : decide (0 < szAt s a) = false := by simpa using hz
      generalize szAt s a = z at *
      go_enter Tryd.func19, Tryd.ntmps19
      go_wp2_with (go_at_call 22; refine hc.mono ?_; rintro e w1 ⟨rfl, hb1⟩)
      go_ret
      exact ⟨rfl, hb1⟩

theorem szAt_nat (s : ByteArray) (i : Nat) : szAt s (i : Int) = szN s i := by unfold szAt; rw [if_pos (by omega), Int.toNat_natCast]
theorem valid_first (s : ByteArray) (hv : vld s.data.toList = true) (h : 0 < s.size) : szN s 0 ≠ 0 := by
  intro e
  rw [szN_eq, List.drop_zero] at e
  have hne := drop_ne s 0 h
  rw [List.drop_zero] at hne
  rw [vld_bad hne e] at hv
  cases hv
theorem edg_le (s : ByteArray) (a : Int) (h : edg s a = true) (h0 : 0 ≤ a) : a ≤ s.size ∧ vld s.data.toList = true := by
  unfold edg at h
  simp only [Bool.and_eq_true, Bool.or_eq_true, decide_eq_true_eq] at h
  refine ⟨?_, h.2⟩
  rcases h.1 with h1 | h1
  · omega
  · unfold szAt szN at h1
    rw [if_pos h0] at h1
    split at h1
    · omega
    · omega

end Go.Proofs.YtbpklbhaoemkkabDoor
