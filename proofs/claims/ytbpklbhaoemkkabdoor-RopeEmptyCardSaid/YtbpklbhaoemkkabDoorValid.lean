/- utf.Valid, walked. -/
import Derived.Test.YtbpklbhaoemkkabDoorSize
import Derived.Test.YtbpklbhaoemkkabDoorRuns
namespace Go.Proofs.YtbpklbhaoemkkabDoor
open Go.RowKit Go.Sort

theorem ret_bool {a b : Bool} (h : a = b) : Ending.returned (.bool a) = .returned (.bool b) := by rw [h]

theorem bytes_length (s : ByteArray) : s.data.toList.length = s.size := rfl
theorem drop_ne (s : ByteArray) (i : Nat) (h : i < s.size) : s.data.toList.drop i ≠ [] := by
  intro e
  have := congrArg List.length e
  rw [List.length_drop, bytes_length] at this
  simp at this
  omega
theorem drop_all (s : ByteArray) (i : Nat) (h : s.size ≤ i) : s.data.toList.drop i = [] :=
  List.drop_eq_nil_of_le (by rw [bytes_length]; exact h)

theorem szN_le (s : ByteArray) (i : Nat) (h : i < s.size) : 0 ≤ szN s i ∧ szN s i ≤ 4 ∧ (i : Int) + szN s i ≤ s.size := by
  rw [szN_eq]
  have h1 := sz1_nonneg (s.data.toList.drop i)
  refine ⟨h1.1, h1.2, ?_⟩
  by_cases hz : sz1 (s.data.toList.drop i) = 0
  · omega
  · obtain ⟨_, h2, h3⟩ := sz1_split hz
    have := congrArg List.length h2
    rw [List.length_append, h3, List.length_drop, bytes_length] at this
    omega

set_option maxHeartbeats 400000 in
/-- utf.Valid. -/
theorem valid_any (s : ByteArray) (w : World) (tb : Nat × Nat) (hs : s.size ≤ maxLen) (hT : Tab w tb) :
    Calls Tryd.prog 33 #[.string s] w fun e w' => e = .returned (.bool (vld s.data.toList)) ∧ Below w.heap.size w w' := by
  have hmax := hs
  unfold maxLen at hs
  go_enter Tryd.func33, Tryd.ntmps33
  go_wp2
  go_loopw [3] (fun j wr => ∃ k : Nat, k ≤ s.size ∧ j = .int .i64 k ∧ Below w.heap.size w wr ∧ Hid (vld s.data.toList = vld (s.data.toList.drop k))) (fun j _ => s.size - (intOf j).toNat)
  case atStart => exact ⟨0, by omega, rfl, Below.refl _ _, rfl⟩
  case round =>
    obtain ⟨k, hk, rfl, hb, HV⟩ := hrel
    have hT2 := hT.later hb
    by_cases hlt : k < s.size
    · have hz := szN_le s k hlt
      have hzl := szN_eq s k
      have HZ : Hid (szN s k = sz1 (s.data.toList.drop k)) := hzl
      clear hzl
      by_cases h0 : szN s k = 0
      · have hv : Hid (false = vld s.data.toList) := by
          rw [HZ.out] at h0
          exact (HV.out.trans (vld_bad (drop_ne s k hlt) h0)).symm
        have hc := size_in s k wr tb hmax hlt hT2
        rw [h0] at hc
        clear h0 hz
        go_wp2_with (go_at_call 22; refine hc.mono ?_; rintro e w1 ⟨rfl, hb1⟩)
        go_ret
        exact ⟨ret_bool hv.out, hb.trans (hb1.mono hb.size)⟩
      · have hv : Hid (vld s.data.toList = vld (s.data.toList.drop (k + (szN s k).toNat))) := by
          have h0' := h0
          rw [HZ.out] at h0'
          have e := vld_step (drop_ne s k hlt) h0'
          rw [List.drop_drop, ← HZ.out] at e
          exact HV.out.trans e
        have hc := size_in s k wr tb hmax hlt hT2
        have hne : (szN s k == 0) = false := by simpa using h0
        have hpos : 1 ≤ szN s k := by omega
        clear h0 HZ HV
        generalize szN s k = z at *
        go_wp2_with (go_at_call 22; refine hc.mono ?_; rintro e w1 ⟨rfl, hb1⟩)
        go_roundw
        case rel => exact ⟨k + z.toNat, by omega, by go_num, hb.trans (hb1.mono hb.size), hv⟩
        case measure => simp [intOf]; omega
    · go_wp2
      go_ret
      exact ⟨ret_bool (by rw [HV.out, drop_all s k (by omega)]; rfl), hb⟩
end Go.Proofs.YtbpklbhaoemkkabDoor
