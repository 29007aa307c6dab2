/- The reference's Valid, Clean, IsEdge and Back, walked: they answer what package utf's answer. -/
import Derived.Test.YtafhogfbjklboaaDoorTxt
import Derived.Test.YtafhogfbjklboaaDoorRefSize
namespace Go.Proofs.YtafhogfbjklboaaDoor
open Go.RowKit Go.Sort

theorem ret_str {a b : ByteArray} (h : a = b) : Ending.returned (.string a) = .returned (.string b) := by rw [h]

set_option maxHeartbeats 1000000 in
set_option maxRecDepth 100000 in
theorem refvalid_any (s : ByteArray) (w : World) (hs : s.size ≤ maxLen) :
    Calls Tryd.prog 23 #[.string s] w fun e w' => e = .returned (.bool (vld s.data.toList)) ∧ w' = w := by
  have hmax := hs
  unfold maxLen at hs
  go_enter Tryd.func23, Tryd.ntmps23
  go_wp2
  go_loopw [3] (fun j wr => ∃ k : Nat, k ≤ s.size ∧ j = .int .i64 k ∧ wr = w ∧ Hid (vld s.data.toList = vld (s.data.toList.drop k))) (fun j _ => s.size - (intOf j).toNat)
  case atStart => exact ⟨0, by omega, rfl, rfl, rfl⟩
  case round =>
    obtain ⟨k, hk, rfl, rfl, HV⟩ := hrel
    by_cases hlt : k < s.size
    · have hz := szN_le s k hlt
      have HZ : Hid (szN s k = sz1 (s.data.toList.drop k)) := szN_eq s k
      by_cases h0 : szN s k = 0
      · have hv : Hid (false = vld s.data.toList) := by
          rw [HZ.out] at h0
          exact (HV.out.trans (vld_bad (drop_ne s k hlt) h0)).symm
        have hc := refsize_in s k wr hmax hlt
        rw [h0] at hc
        clear h0 hz
        go_wp2_with (go_at_call 25; refine hc.mono ?_; rintro e w1 ⟨rfl, rfl⟩)
        go_ret
        exact ⟨ret_bool hv.out, rfl⟩
      · have hv : Hid (vld s.data.toList = vld (s.data.toList.drop (k + (szN s k).toNat))) := by
          have h0' := h0
          rw [HZ.out] at h0'
          have e := vld_step (drop_ne s k hlt) h0'
          rw [List.drop_drop, ← HZ.out] at e
          exact HV.out.trans e
        have hc := refsize_in s k wr hmax hlt
        have hne : (szN s k == 0) = false := by simpa using h0
        have hpos : 1 ≤ szN s k := by omega
        clear h0 HZ HV
        generalize szN s k = z at *
        go_wp2_with (go_at_call 25; refine hc.mono ?_; rintro e w1 ⟨rfl, rfl⟩)
        go_roundw
        case rel => exact ⟨k + z.toNat, by omega, by go_num, by first | rfl | trivial, hv⟩
        case measure => simp [intOf]; omega
    · go_wp2
      go_ret
      exact ⟨ret_bool (by rw [HV.out, drop_all s k (by omega)]; rfl), rfl⟩

/-- What is cleaned so far. -/
def cacc (l : List UInt8) : ByteArray := ⟨l.toArray⟩
theorem cacc_append (a b : List UInt8) : cacc a ++ cacc b = cacc (a ++ b) := by
  apply ByteArray.ext
  rw [ByteArray.data_append]
  simp [cacc]
theorem cacc_size (a : List UInt8) : (cacc a).size = a.length := rfl
theorem cacc_bytes (s : ByteArray) : cacc s.data.toList = s := by cases s; simp [cacc]

set_option maxHeartbeats 1000000 in
set_option maxRecDepth 100000 in
theorem refclean_any (s : ByteArray) (w : World) (hs : s.size ≤ 1000000) :
    Calls Tryd.prog 55 #[.string s] w fun e w' => e = .returned (.string ⟨(cln s.data.toList).toArray⟩) ∧ w' = w := by
  have hmax : s.size ≤ maxLen := by unfold maxLen; omega
  cases hv : vld s.data.toList with
  | true =>
    have hcv := fun W => refvalid_any s W hmax
    rw [hv] at hcv
    rw [cln_of_valid hv, array_eq rfl]
    clear hv
    go_enter Tryd.func55, Tryd.ntmps55
    go_wp2_with fail
    refine (hcv _).mono ?_
    rintro e w1 ⟨rfl, rfl⟩
    go_wp2
    go_ret
    exact ⟨rfl, rfl⟩
  | false =>
    have hcv := fun W => refvalid_any s W hmax
    rw [hv] at hcv
    have HCV : Hid (∀ W, Calls Tryd.prog 23 #[.string s] W fun e w' => e = .returned (.bool false) ∧ w' = W) := hcv
    clear hv hcv
    go_enter Tryd.func55, Tryd.ntmps55
    go_wp2_with fail
    refine (HCV.out _).mono ?_
    rintro e w1 ⟨rfl, rfl⟩
    go_wp2
    go_loopw [3, 4] (fun t j wr => ∃ (k : Nat) (acc : List UInt8), k ≤ s.size ∧ j = .int .i64 k ∧ t = .string (cacc acc) ∧ wr = w1 ∧ acc.length ≤ 4 * k ∧ Hid (acc ++ cln (s.data.toList.drop k) = cln s.data.toList)) (fun _ j _ => s.size - (intOf j).toNat)
    case atStart => exact ⟨0, [], by omega, rfl, rfl, rfl, by simp, rfl⟩
    case round =>
      obtain ⟨k, acc, hk, rfl, rfl, rfl, hal, HA⟩ := hrel
      have hcs : (cacc acc).size ≤ 4 * k := by rw [cacc_size]; exact hal
      by_cases hlt : k < s.size
      · have hz := szN_le s k hlt
        have HZ : Hid (szN s k = sz1 (s.data.toList.drop k)) := szN_eq s k
        have hc := refsize_in s k wr hmax hlt
        by_cases h0 : szN s k = 0
        · have hv : Hid (acc ++ enc 65533 ++ cln (s.data.toList.drop (k + 1)) = cln s.data.toList) := by
            rw [HZ.out] at h0
            have e := cln_bad (drop_ne s k hlt) h0
            rw [List.drop_drop] at e
            show acc ++ enc 65533 ++ _ = _
            rw [← HA.out, e, List.append_assoc]
          have HE : Hid (cacc acc ++ ⟨#[239, 191, 189]⟩ = cacc (acc ++ enc 65533)) := by
            show _ = _
            rw [← cacc_append]
            congr 1
          rw [h0] at hc
          clear h0 hz HA HZ
          go_wp2_with (go_at_call 25; refine hc.mono ?_; rintro e w1 ⟨rfl, rfl⟩)
          go_roundw
          case rel =>
            refine ⟨k + 1, acc ++ enc 65533, by omega, by go_num, by rw [HE.out], by first | rfl | trivial, ?_, hv⟩
            have := enc_length 65533; rw [List.length_append]; omega
          case measure => simp [intOf]; omega
        · have hv : Hid (acc ++ (s.extract k (k + (szN s k).toNat)).data.toList ++ cln (s.data.toList.drop (k + (szN s k).toNat)) = cln s.data.toList) := by
            have h0' := h0
            rw [HZ.out] at h0'
            have e := cln_step (drop_ne s k hlt) h0'
            rw [List.drop_drop, ← HZ.out] at e
            show acc ++ _ ++ _ = _
            rw [← HA.out, e, List.append_assoc, extract_bytes, Nat.add_sub_cancel_left]
          have hne : (szN s k == 0) = false := by simpa using h0
          have hpos : 1 ≤ szN s k := by omega
          clear h0 HZ HA
          generalize szN s k = z at *
          obtain ⟨m, rfl⟩ : ∃ m : Nat, z = m := ⟨z.toNat, by omega⟩
          rw [Int.toNat_natCast] at hv
          have HE : Hid (cacc acc ++ s.extract k (k + m) = cacc (acc ++ (s.extract k (k + m)).data.toList)) := by
            show _ = _
            rw [← cacc_append, cacc_bytes]
          have hex : (s.extract k (k + m)).size = m := by rw [ByteArray.size_extract]; omega
          have HX : Hid ((s.extract k (k + m)).size = m) := hex
          have hexl : (s.extract k (k + m)).size ≤ 4 := by omega
          clear hex
          go_wp2_with (go_at_call 25; refine hc.mono ?_; rintro e w1 ⟨rfl, rfl⟩)
          go_roundw
          case rel =>
            refine ⟨k + m, acc ++ (s.extract k (k + m)).data.toList, by omega, by go_num, by rw [HE.out], by first | rfl | trivial, ?_, hv⟩
            rw [List.length_append, bytes_length, HX.out]; omega
          case measure => simp [intOf]; omega
      · have ha := HA.out
        rw [drop_all s k (by omega), cln_nil, List.append_nil] at ha
        have HAA : Hid (cacc acc = ⟨(cln s.data.toList).toArray⟩) := by rw [← ha]; rfl
        clear ha HA
        go_wp2
        go_ret
        exact ⟨ret_str HAA.out, rfl⟩

/-- The bytes behind a code point's first one go on. -/
theorem enc_cont (c : Int) (h : scalar c) (t : List UInt8) (j : Nat) (h0 : 0 < j) (h1 : j < (enc c).length) : bl (enc c ++ t) j / 64 = 2 := by
  unfold scalar at h
  by_cases g1 : c ≤ 127
  · have e : enc c = [c.toNat.toUInt8] := by unfold enc Lib.encodeRune; rw [Lib.encodeRuneZ_one (by omega) g1]; rfl
    rw [e] at h1; simp at h1; omega
  · by_cases g2 : c ≤ 2047
    · have e : enc c = [(192 + c / 64).toNat.toUInt8, (128 + c % 64).toNat.toUInt8] := by unfold enc Lib.encodeRune; rw [Lib.encodeRuneZ_two (by omega) g2]; rfl
      rw [e] at h1 ⊢
      simp at h1
      obtain rfl : j = 1 := by omega
      show ((((128 + c % 64).toNat.toUInt8).toNat : Nat) : Int) / 64 = 2
      rw [byte_of _ (by omega) (by omega)]; omega
    · by_cases g3 : c ≤ 65535
      · have e : enc c = [(224 + c / 4096).toNat.toUInt8, (128 + c / 64 % 64).toNat.toUInt8, (128 + c % 64).toNat.toUInt8] := by unfold enc Lib.encodeRune; rw [Lib.encodeRuneZ_three (by omega)]; rfl
        rw [e] at h1 ⊢
        simp at h1
        have : j = 1 ∨ j = 2 := by omega
        rcases this with rfl | rfl
        · show ((((128 + c / 64 % 64).toNat.toUInt8).toNat : Nat) : Int) / 64 = 2
          rw [byte_of _ (by omega) (by omega)]; omega
        · show ((((128 + c % 64).toNat.toUInt8).toNat : Nat) : Int) / 64 = 2
          rw [byte_of _ (by omega) (by omega)]; omega
      · have e : enc c = [(240 + c / 262144).toNat.toUInt8, (128 + c / 4096 % 64).toNat.toUInt8, (128 + c / 64 % 64).toNat.toUInt8, (128 + c % 64).toNat.toUInt8] := by unfold enc Lib.encodeRune; rw [Lib.encodeRuneZ_four (by omega) (by omega)]; rfl
        rw [e] at h1 ⊢
        simp at h1
        have : j = 1 ∨ j = 2 ∨ j = 3 := by omega
        rcases this with rfl | rfl | rfl
        · show ((((128 + c / 4096 % 64).toNat.toUInt8).toNat : Nat) : Int) / 64 = 2
          rw [byte_of _ (by omega) (by omega)]; omega
        · show ((((128 + c / 64 % 64).toNat.toUInt8).toNat : Nat) : Int) / 64 = 2
          rw [byte_of _ (by omega) (by omega)]; omega
        · show ((((128 + c % 64).toNat.toUInt8).toNat : Nat) : Int) / 64 = 2
          rw [byte_of _ (by omega) (by omega)]; omega

/-- In a valid text no code point begins just at the bytes that go on. -/
theorem valid_cont (s : ByteArray) (hv : vld s.data.toList = true) (k : Nat) (hk : k < s.size) : (szN s k = 0 ↔ byt s k / 64 = 2) := by
  have ea := flat_pts' hv
  have ga := good_pts' s.data.toList
  have hl : (flat (pts s.data.toList)).length = s.size := by rw [ea]; rfl
  have hz := szN_in s k hk
  have hr := byt_range s k
  rcases place_cases (pts s.data.toList) k (by omega) with ⟨cs1, cs2, e, rfl⟩ | ⟨cs1, c, cs2, j, e, rfl, h0, h1⟩
  · rw [e] at ga ea
    cases cs2 with
    | nil =>
      rw [e, List.append_nil] at hl
      omega
    | cons c cs2 =>
      have hs := sz_start (s := s) (cs1 := cs1) (c := c) (cs2 := cs2) (by rw [← ea, flat_append]) (good_right ga).head
      have hel := enc_length c
      constructor
      · intro h; omega
      · intro h
        have hp : 0 < szI ((s.size : Int) - ((flat cs1).length : Nat)) (byt s (flat cs1).length) (byt s ((flat cs1).length + 1)) (byt s ((flat cs1).length + 2)) (byt s ((flat cs1).length + 3)) := by omega
        rcases szI_cases hr.1 hp with ⟨_, hm, g⟩ | ⟨_, hm, g⟩ | ⟨_, hm, g2, g⟩ | ⟨_, hm, g2, g3, g⟩ <;> omega
  · rw [e] at ga ea
    have hc : scalar c := (good_right ga).head
    have hs := sz_within (s := s) (cs1 := cs1) (c := c) (cs2 := cs2) (by rw [← ea, flat_append]) hc j h0 h1
    refine ⟨fun _ => ?_, fun _ => hs⟩
    have hd : s.data.toList.drop (flat cs1).length = enc c ++ flat cs2 := by
      rw [← ea, flat_append, flat_cons]; exact List.drop_left' rfl
    rw [byt_bl, hd]
    exact enc_cont c hc _ j h0 h1

theorem edg_ref (s : ByteArray) (hv : vld s.data.toList = true) (k : Nat) (hk : k < s.size) : edg s (k : Int) = !decide (byt s k / 64 = 2) := by
  unfold edg
  have h1 : decide ((k : Int) = (s.size : Int)) = false := by rw [decide_eq_false_iff_not]; omega
  rw [hv, h1, szAt_nat, Bool.and_true, Bool.false_or]
  have hc := valid_cont s hv k hk
  have hn := szN_le s k hk
  by_cases hb : byt s k / 64 = 2
  · have := hc.2 hb
    rw [this]
    simp [hb]
  · have : ¬ szN s k = 0 := fun h => hb (hc.1 h)
    simp [hb]
    omega

set_option maxHeartbeats 1000000 in
set_option maxRecDepth 100000 in
/-- The reference's IsEdge. -/
theorem refedge_any (s : ByteArray) (a : Int) (w : World) (hs : s.size ≤ maxLen) :
    Calls Tryd.prog 24 #[.string s, .int .i64 a] w fun e w' => e = .returned (.bool (edg s a)) ∧ w' = w := by
  have hmax := hs
  unfold maxLen at hs
  by_cases hneg : a < 0
  · have e : edg s a = false := by
      unfold edg
      rw [szAt_neg s a hneg]
      have : decide (a = (s.size : Int)) = false := by rw [decide_eq_false_iff_not]; omega
      rw [this]; rfl
    rw [e]
    clear e
    go_enter Tryd.func24, Tryd.ntmps24
    go_wp2
    go_ret
    exact ⟨rfl, rfl⟩
  · have d0 : decide (a < 0) = false := by simpa using hneg
    by_cases hbig : (s.size : Int) < a
    · have e : edg s a = false := by
        unfold edg
        have h1 : szAt s a = 0 := by unfold szAt; rw [if_pos (by omega)]; unfold szN; rw [if_neg (by omega)]
        have : decide (a = (s.size : Int)) = false := by rw [decide_eq_false_iff_not]; omega
        rw [h1, this]; rfl
      rw [e]
      clear e
      go_enter Tryd.func24, Tryd.ntmps24
      go_wp2
      go_ret
      exact ⟨rfl, rfl⟩
    · have d1 : decide ((s.size : Int) < a) = false := by simpa using hbig
      have hcv := fun W => refvalid_any s W hmax
      cases hv : vld s.data.toList with
      | false =>
        have e : edg s a = false := by unfold edg; rw [hv, Bool.and_false]
        rw [hv] at hcv
        rw [e]
        have HCV : Hid (∀ W, Calls Tryd.prog 23 #[.string s] W fun e w' => e = .returned (.bool false) ∧ w' = W) := hcv
        clear e hv hcv
        go_enter Tryd.func24, Tryd.ntmps24
        go_wp2_with fail
        refine (HCV.out _).mono ?_
        rintro e w1 ⟨rfl, rfl⟩
        go_wp2
        go_ret
        exact ⟨rfl, rfl⟩
      | true =>
        rw [hv] at hcv
        have HCV : Hid (∀ W, Calls Tryd.prog 23 #[.string s] W fun e w' => e = .returned (.bool true) ∧ w' = W) := hcv
        by_cases he : a = (s.size : Int)
        · have e : edg s a = true := by unfold edg; simp [hv, he]
          rw [e]
          have hq : (a == (s.size : Int)) = true := by simpa using he
          clear e hv hcv he
          go_enter Tryd.func24, Tryd.ntmps24
          go_wp2_with fail
          refine (HCV.out _).mono ?_
          rintro e w1 ⟨rfl, rfl⟩
          go_wp2
          go_ret
          exact ⟨rfl, rfl⟩
        · have hq : (a == (s.size : Int)) = false := by simpa using he
          obtain ⟨k, rfl⟩ : ∃ k : Nat, a = k := ⟨a.toNat, by omega⟩
          have hk : k < s.size := by omega
          have hkI : (k : Int) < s.size := by omega
          rw [edg_ref s hv k hk, byt_of s k hk]
          have hr := byte_range s k hk
          clear hv hcv he
          by_cases hb : (s[k].toNat : Int) / 64 = 2
          · have hb' : ((s[k].toNat : Int) / 64 != 2) = false := by simp [hb]
            have HB : Hid ((s[k].toNat : Int) / 64 = 2) := hb
            have e : (!decide ((s[k].toNat : Int) / 64 = 2)) = false := by simp [hb]
            rw [e]
            clear e hb
            go_enter Tryd.func24, Tryd.ntmps24
            go_wp2_with fail
            refine (HCV.out _).mono ?_
            rintro e w1 ⟨rfl, rfl⟩
            go_wp2
            go_ret
            exact ⟨rfl, rfl⟩
          · have hb' : ((s[k].toNat : Int) / 64 != 2) = true := by simp [hb]
            have e : (!decide ((s[k].toNat : Int) / 64 = 2)) = true := by simp [hb]
            rw [e]
            clear e hb
            go_enter Tryd.func24, Tryd.ntmps24
            go_wp2_with fail
            refine (HCV.out _).mono ?_
            rintro e w1 ⟨rfl, rfl⟩
            go_wp2
            go_ret
            exact ⟨rfl, rfl⟩

end Go.Proofs.YtafhogfbjklboaaDoor
