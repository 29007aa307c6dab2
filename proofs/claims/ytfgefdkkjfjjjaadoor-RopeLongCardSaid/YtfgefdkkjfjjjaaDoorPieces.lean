/- edgeUpTo, strings.Clone, pieces. -/
import Derived.Test.YtfgefdkkjfjjjaaDoorTreeE
import Derived.Test.YtfgefdkkjfjjjaaDoorShelfJ
import Derived.Test.YtfgefdkkjfjjjaaDoorTxt
import Derived.Test.YtfgefdkkjfjjjaaDoorClean
namespace Go.Proofs.YtfgefdkkjfjjjaaDoor
open Go.RowKit Go.Sort
set_option linter.unusedSimpArgs false
set_option linter.unusedVariables false

set_option maxHeartbeats 1000000 in
set_option maxRecDepth 100000 in
/-- strings.Clone. -/
theorem sclone_any (s : ByteArray) (w : World) (hs : s.size ≤ 281474976710656) : Calls Tryd.prog 74 #[.string s] w fun e w' => e = .returned (.string s) ∧ Below w.heap.size w w' := by
  have H : Hid (∀ W, Calls Tryd.prog 79 #[.string s] W fun e w' => e = .returned (.string s) ∧ Below W.heap.size W w') := fun W => Tryd.slite_Clone s W hs
  go_enter Tryd.func74, Tryd.ntmps74
  go_wp2_with fail
  refine (H.out _).mono ?_
  rintro e w1 ⟨rfl, b1⟩
  go_wp2
  go_ret
  exact ⟨rfl, b1⟩

set_option maxHeartbeats 1000000 in
set_option maxRecDepth 100000 in
/-- edgeUpTo. -/
theorem eup_any (s : ByteArray) (a : Nat) (w : World) (tb : Nat × Nat) (hs : s.size ≤ 1099511627776) (hv : vld s.data.toList = true) (ha : a < s.size) (hT : Tab w tb) :
    Calls Tryd.prog 73 #[.string s, .int .i64 (a : Nat)] w fun e w' => ∃ (e1 : Nat) (cs1 cs2 : List Int), e = .returned (.int .i64 (e1 : Nat)) ∧ e1 ≤ a ∧ a ≤ e1 + 3 ∧ s.data.toList = flat cs1 ++ flat cs2 ∧ e1 = (flat cs1).length ∧ Good cs1 ∧ Good cs2 ∧ Below w.heap.size w w' := by
  obtain ⟨cs, hg, hcs⟩ := (vld_iff _).1 hv
  have hpl : ∃ cs1 c cs2 j, cs = cs1 ++ c :: cs2 ∧ a = (flat cs1).length + j ∧ j < (enc c).length := by
    rcases place_cases cs a (by rw [← hcs, bytes_length]; omega) with ⟨cs1, cs2, e, hk⟩ | ⟨cs1, c, cs2, j, e, hk, _, hj⟩
    · cases cs2 with
      | nil =>
        rw [List.append_nil] at e
        have := congrArg List.length hcs
        rw [bytes_length, e] at this
        omega
      | cons c cs2 => exact ⟨cs1, c, cs2, 0, e, hk, by have := enc_length c; omega⟩
    · exact ⟨cs1, c, cs2, j, e, hk, hj⟩
  obtain ⟨cs1, c, cs2, j, e, hk, hj⟩ := hpl
  have hsp : s.data.toList = flat cs1 ++ flat (c :: cs2) := by rw [hcs, e, flat_append]
  have hgc : Good (cs1 ++ c :: cs2) := e ▸ hg
  have hsc : scalar c := (good_right hgc).head
  have h0 : szAt s ((flat cs1).length : Nat) = ((enc c).length : Int) := by rw [szAt_nat]; exact sz_start hsp hsc
  have hw : ∀ i, 0 < i → i < (enc c).length → szAt s (((flat cs1).length + i : Nat) : Int) = 0 := fun i h1 h2 => by rw [szAt_nat]; exact sz_within hsp hsc i h1 h2
  have hel := enc_length c
  have H0 := Hid.mk4 h0
  have HW := Hid.mk4 hw
  have HSP := Hid.mk4 hsp
  have HG := Hid.mk4 hgc
  have HJ := Hid.mk4 hk
  obtain ⟨L, hL⟩ : ∃ L, L = (flat cs1).length := ⟨_, rfl⟩
  have HL := Hid.mk4 hL
  rw [← hL] at H0 HW HJ
  have hLs : L + j < s.size := by have := HJ.out; omega
  have haL : a = L + j := HJ.out
  subst haL
  clear h0 hw hsp hgc hk hL hcs e hg HJ
  have HS : Hid (∀ W x, Tab W tb → Calls Tryd.prog 39 #[.string s, .int .i64 x] W fun e w' => e = .returned (.int .i64 (szAt s x)) ∧ Below W.heap.size W w') := fun W x h => size_any s x W tb (by unfold maxLen; omega) h
  go_enter Tryd.func73, Tryd.ntmps73
  go_wp2
  go_loopw [1] (fun at_ wr => ∃ i : Nat, at_ = .int .i64 ((L + i : Nat) : Int) ∧ i ≤ j ∧ Below w.heap.size w wr) (fun at_ _ => (intOf at_).toNat)
  case atStart => exact ⟨j, rfl, Nat.le_refl _, Below.refl _ _⟩
  case round =>
    obtain ⟨i, rfl, hi, hb⟩ := hrel
    have HC := Hid.mk4 (HS.out wr ((L + i : Nat) : Int) (hT.later hb))
    by_cases hi0 : i = 0
    · subst hi0
      have hz : szAt s ((L + 0 : Nat) : Int) = ((enc c).length : Int) := by rw [Nat.add_zero]; exact H0.out
      rw [hz] at HC
      have hne : (((enc c).length : Int) == 0) = false := by simp; intro e; rw [e] at hel; simp at hel
      have hne2 : ((enc c).length == 0) = false := by simp; intro e; rw [e] at hel; simp at hel
      have hne3 : decide ((enc c).length = 0) = false := by simp; intro e; rw [e] at hel; simp at hel
      generalize (enc c).length = m at *
      clear hz
      go_wp2_with fail
      refine HC.out.mono ?_
      rintro e w2 ⟨rfl, b2⟩
      clear HC
      go_wp2
      go_ret
      exact ⟨L, cs1, c :: cs2, by simp, by omega, by omega, HSP.out, HL.out, good_left HG.out, good_right HG.out, hb.trans (b2.mono hb.size)⟩
    · have hz : szAt s ((L + i : Nat) : Int) = 0 := HW.out i (by omega) (by omega)
      rw [hz] at HC
      clear hz
      have hLi : L + i ≤ 1099511627776 := by omega
      go_wp2_with fail
      refine HC.out.mono ?_
      rintro e w2 ⟨rfl, b2⟩
      clear HC
      have hb2 := hb.trans (b2.mono hb.size)
      go_wp2
      go_roundw
      case rel => exact ⟨i - 1, by go_num, by omega, hb2⟩
      case measure => simp [intOf]; omega
end Go.Proofs.YtfgefdkkjfjjjaaDoor
