/- Plain mathematics of edges: where code points begin, and the way back. -/
import Derived.Test.YtbpklbhaoemkkabDoorEdge
namespace Go.Proofs.YtbpklbhaoemkkabDoor

theorem cont_zero (y : UInt8) (t : List UInt8) (h0 : 128 ≤ y.toNat) (h1 : y.toNat < 194) : sz1 (y :: t) = 0 := by
  unfold sz1
  rw [if_neg (by simp)]
  exact szI_cont (by show (128 : Int) ≤ ((y.toNat : Nat) : Int); omega) (by show ((y.toNat : Nat) : Int) < 194; omega)

theorem byte_toNat (x : Int) (h0 : 0 ≤ x) (h1 : x < 256) : (x.toNat.toUInt8).toNat = x.toNat := by
  have := byte_of x h0 h1
  omega

/-- No code point begins within one. -/
theorem enc_tail (c : Int) (h : scalar c) (t : List UInt8) (j : Nat) (h0 : 0 < j) (h1 : j < (enc c).length) : sz1 ((enc c ++ t).drop j) = 0 := by
  unfold scalar at h
  by_cases g1 : c ≤ 127
  · have e : enc c = [c.toNat.toUInt8] := by unfold enc Lib.encodeRune; rw [Lib.encodeRuneZ_one (by omega) g1]; rfl
    rw [e] at h1; simp at h1; omega
  · by_cases g2 : c ≤ 2047
    · have e : enc c = [(192 + c / 64).toNat.toUInt8, (128 + c % 64).toNat.toUInt8] := by unfold enc Lib.encodeRune; rw [Lib.encodeRuneZ_two (by omega) g2]; rfl
      rw [e] at h1 ⊢
      simp at h1
      obtain rfl : j = 1 := by omega
      exact cont_zero _ _ (by rw [byte_toNat _ (by omega) (by omega)]; omega) (by rw [byte_toNat _ (by omega) (by omega)]; omega)
    · by_cases g3 : c ≤ 65535
      · have e : enc c = [(224 + c / 4096).toNat.toUInt8, (128 + c / 64 % 64).toNat.toUInt8, (128 + c % 64).toNat.toUInt8] := by unfold enc Lib.encodeRune; rw [Lib.encodeRuneZ_three (by omega)]; rfl
        rw [e] at h1 ⊢
        simp at h1
        have : j = 1 ∨ j = 2 := by omega
        rcases this with rfl | rfl
        · exact cont_zero _ _ (by rw [byte_toNat _ (by omega) (by omega)]; omega) (by rw [byte_toNat _ (by omega) (by omega)]; omega)
        · exact cont_zero _ _ (by rw [byte_toNat _ (by omega) (by omega)]; omega) (by rw [byte_toNat _ (by omega) (by omega)]; omega)
      · have e : enc c = [(240 + c / 262144).toNat.toUInt8, (128 + c / 4096 % 64).toNat.toUInt8, (128 + c / 64 % 64).toNat.toUInt8, (128 + c % 64).toNat.toUInt8] := by unfold enc Lib.encodeRune; rw [Lib.encodeRuneZ_four (by omega) (by omega)]; rfl
        rw [e] at h1 ⊢
        simp at h1
        have : j = 1 ∨ j = 2 ∨ j = 3 := by omega
        rcases this with rfl | rfl | rfl
        · exact cont_zero _ _ (by rw [byte_toNat _ (by omega) (by omega)]; omega) (by rw [byte_toNat _ (by omega) (by omega)]; omega)
        · exact cont_zero _ _ (by rw [byte_toNat _ (by omega) (by omega)]; omega) (by rw [byte_toNat _ (by omega) (by omega)]; omega)
        · exact cont_zero _ _ (by rw [byte_toNat _ (by omega) (by omega)]; omega) (by rw [byte_toNat _ (by omega) (by omega)]; omega)

theorem bkF_run (s : ByteArray) (i : Nat) (h0 : szN s i ≠ 0 ∨ i = 0) : ∀ d, (∀ j, i < j → j ≤ i + d → szN s j = 0) → bkF s (i + d) = i
  | 0, _ => by
    cases i with
    | zero => rfl
    | succ k =>
      have : szN s (k + 1) ≠ 0 := by rcases h0 with h | h; exact h; cases h
      show bkF s (k + 1) = _
      unfold bkF
      rw [if_neg this]
  | d + 1, h => by
    have e : bkF s (i + (d + 1)) = bkF s (i + d) := by
      show bkF s (i + d + 1) = _
      conv => lhs; unfold bkF
      rw [if_pos (h (i + d + 1) (by omega) (by omega))]
    rw [e]
    exact bkF_run s i h0 d (fun j h1 h2 => h j h1 (by omega))

section
variable {s : ByteArray} {cs1 cs2 : List Int} {c : Int}
theorem flat_drop (h : s.data.toList = flat cs1 ++ flat cs2) : s.data.toList.drop (flat cs1).length = flat cs2 := by
  rw [h]; exact List.drop_left' rfl
theorem split_size (h : s.data.toList = flat cs1 ++ flat cs2) : s.size = (flat cs1).length + (flat cs2).length := by
  rw [← bytes_length, h, List.length_append]

/-- Size where a code point begins. -/
theorem sz_start (h : s.data.toList = flat cs1 ++ flat (c :: cs2)) (hc : scalar c) : szN s (flat cs1).length = ((enc c).length : Int) := by
  rw [szN_eq, flat_drop h, flat_cons]
  exact (sz1_enc c hc _).1
theorem sz_within (h : s.data.toList = flat cs1 ++ flat (c :: cs2)) (hc : scalar c) (j : Nat) (h0 : 0 < j) (h1 : j < (enc c).length) : szN s ((flat cs1).length + j) = 0 := by
  rw [szN_eq, ← List.drop_drop, flat_drop h, flat_cons]
  exact enc_tail c hc _ j h0 h1
theorem edge_start (h : s.data.toList = flat cs1 ++ flat cs2) (h1 : Good cs1) (h2 : Good cs2) : edg s ((flat cs1).length : Int) = true := by
  have hv : vld s.data.toList = true := by rw [h, ← flat_append]; exact vld_flat (h1.append h2)
  unfold edg
  rw [hv, Bool.and_true]
  cases cs2 with
  | nil =>
    have := split_size h
    simp [flat_nil] at this
    simp [this]
  | cons c cs2 =>
    have hs := sz_start h h2.head
    have hl := enc_length c
    rw [szAt_nat, hs]
    simp
    omega
theorem edge_within (h : s.data.toList = flat cs1 ++ flat (c :: cs2)) (hc : scalar c) (j : Nat) (h0 : 0 < j) (h1 : j < (enc c).length) : edg s (((flat cs1).length + j : Nat) : Int) = false := by
  unfold edg
  have hs := sz_within h hc j h0 h1
  have hz := split_size h
  rw [flat_cons, List.length_append] at hz
  rw [szAt_nat, hs]
  have : decide ((((flat cs1).length + j : Nat) : Int) = (s.size : Int)) = false := by rw [decide_eq_false_iff_not]; omega
  rw [this]
  rfl
theorem back_start (h : s.data.toList = flat cs1 ++ flat (c :: cs2)) (h1 : Good cs1) (h2 : Good (c :: cs2)) : bk s (((flat cs1).length + (enc c).length : Nat) : Int) = ((flat cs1).length : Int) := by
  have hl := enc_length c
  have h' : s.data.toList = flat (cs1 ++ [c]) ++ flat cs2 := by rw [h, flat_append, flat_cons, flat_cons, flat_nil, List.append_nil, List.append_assoc]
  have he := edge_start h' (h1.append (Good.cons h2.head good_nil)) h2.tail
  have e : (flat (cs1 ++ [c])).length = (flat cs1).length + (enc c).length := by rw [flat_append, List.length_append]; simp [flat]
  rw [e] at he
  unfold bk
  rw [if_neg (by rw [he]; simp; omega)]
  have e2 : ((((flat cs1).length + (enc c).length : Nat) : Int) - 1).toNat = (flat cs1).length + ((enc c).length - 1) := by omega
  rw [e2]
  refine bkF_run s _ (Or.inl ?_) _ (fun j g1 g2 => ?_)
  · rw [sz_start h h2.head]; omega
  · obtain ⟨m, rfl⟩ : ∃ m, j = (flat cs1).length + m := ⟨j - (flat cs1).length, by omega⟩
    exact sz_within h h2.head m (by omega) (by omega)
end
theorem back_zero (s : ByteArray) (a : Int) (h : a ≤ 0) : bk s a = a := by unfold bk; rw [if_pos (Or.inl h)]
theorem szAt_end (s : ByteArray) : szAt s (s.size : Int) = 0 := by rw [szAt_nat]; unfold szN; rw [if_neg (by omega)]
theorem szAt_neg (s : ByteArray) (a : Int) (h : a < 0) : szAt s a = 0 := by unfold szAt; rw [if_neg (by omega)]
end Go.Proofs.YtbpklbhaoemkkabDoor
