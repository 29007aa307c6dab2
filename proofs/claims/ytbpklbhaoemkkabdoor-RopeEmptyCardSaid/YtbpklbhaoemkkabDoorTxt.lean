/- Plain mathematics of texts: cut, joined, their places; the model's decoder. -/
import Derived.Test.YtbpklbhaoemkkabDoorSteps
namespace Go.Proofs.YtbpklbhaoemkkabDoor
open Go.RowKit Go.Sort

theorem cln_nil : cln [] = [] := rfl
theorem cln_bad {l : List UInt8} (hl : l ≠ []) (hz : sz1 l = 0) : cln l = enc 65533 ++ cln (l.drop 1) := by
  unfold cln; rw [pts_bad hl hz, flat_cons]
theorem cln_step {l : List UInt8} (hl : l ≠ []) (hz : sz1 l ≠ 0) : cln l = l.take (sz1 l).toNat ++ cln (l.drop (sz1 l).toNat) := by
  obtain ⟨_, h2, h3⟩ := sz1_split hz
  unfold cln
  rw [pts_step hl hz, flat_cons]
  have : l.take (sz1 l).toNat = enc (dec1 l) := by
    rw [← h3]
    conv => lhs; arg 2; rw [h2]
    exact List.take_left' rfl
  rw [this]
theorem extract_bytes (s : ByteArray) (i j : Nat) : (s.extract i j).data.toList = (s.data.toList.drop i).take (j - i) := by
  simp [ByteArray.extract, ByteArray.copySlice]
theorem byt_bl (s : ByteArray) (i j : Nat) : byt s (i + j) = bl (s.data.toList.drop i) j := by
  by_cases h : i + j < s.size
  · rw [byt_of s _ h]
    unfold bl
    have : (s.data.toList.drop i).getD j 0 = s[i + j] := by
      simp [List.getD_eq_getElem?_getD, List.getElem?_drop]
      rw [Array.getElem?_eq_getElem (by simpa using h)]
      rfl
    rw [this]
  · unfold byt bl
    rw [get!_out s _ h, List.getD_eq_getElem?_getD, List.getElem?_eq_none (by simp; have : s.data.size = s.size := rfl; omega)]
    rfl
/-- The model's decoder at a code point. -/
theorem decode_enc (t : ByteArray) (pos : Nat) (c : Int) (h : scalar c) (rest : List UInt8) (hd : t.data.toList.drop pos = enc c ++ rest) :
    Utf8.decode t pos = (c.toNat, (enc c).length) := by
  have hlen := congrArg List.length hd
  rw [List.length_append, List.length_drop, bytes_length] at hlen
  have q0 := byt_bl t pos 0; have q1 := byt_bl t pos 1; have q2 := byt_bl t pos 2; have q3 := byt_bl t pos 3
  rw [hd] at q0 q1 q2 q3
  rw [Lib.decode_at]
  have p0 : byt t (pos + 0) = ((t.get! pos).toNat : Int) := rfl
  have p1 : byt t (pos + 1) = ((t.get! (pos + 1)).toNat : Int) := rfl
  have p2 : byt t (pos + 2) = ((t.get! (pos + 2)).toNat : Int) := rfl
  have p3 : byt t (pos + 3) = ((t.get! (pos + 3)).toNat : Int) := rfl
  rw [p0] at q0; rw [p1] at q1; rw [p2] at q2; rw [p3] at q3
  clear p0 p1 p2 p3
  generalize (t.get! pos).toNat = a0 at *
  generalize (t.get! (pos + 1)).toNat = a1 at *
  generalize (t.get! (pos + 2)).toNat = a2 at *
  generalize (t.get! (pos + 3)).toNat = a3 at *
  unfold scalar at h
  by_cases h1 : c ≤ 127
  · have e : enc c = [c.toNat.toUInt8] := by unfold enc Lib.encodeRune; rw [Lib.encodeRuneZ_one (by omega) h1]; rfl
    have g0 : bl (enc c ++ rest) 0 = c := by rw [e]; exact byte_of _ (by omega) (by omega)
    rw [g0] at q0
    have el : (enc c).length = 1 := by rw [e]; rfl
    rw [el]
    unfold Lib.decodeN
    rw [if_pos (by omega)]
    exact Prod.ext (by simp; omega) rfl
  · by_cases h2 : c ≤ 2047
    · have e : enc c = [(192 + c / 64).toNat.toUInt8, (128 + c % 64).toNat.toUInt8] := by unfold enc Lib.encodeRune; rw [Lib.encodeRuneZ_two (by omega) h2]; rfl
      have g0 : bl (enc c ++ rest) 0 = 192 + c / 64 := by rw [e]; exact byte_of _ (by omega) (by omega)
      have g1 : bl (enc c ++ rest) 1 = 128 + c % 64 := by rw [e]; exact byte_of _ (by omega) (by omega)
      rw [g0] at q0; rw [g1] at q1
      have el : (enc c).length = 2 := by rw [e]; rfl
      rw [el] at hlen ⊢
      unfold Lib.decodeN
      rw [if_neg (by omega), if_pos (by omega), if_pos (by omega)]
      exact Prod.ext (by simp; omega) rfl
    · by_cases h3 : c ≤ 65535
      · have e : enc c = [(224 + c / 4096).toNat.toUInt8, (128 + c / 64 % 64).toNat.toUInt8, (128 + c % 64).toNat.toUInt8] := by unfold enc Lib.encodeRune; rw [Lib.encodeRuneZ_three (by omega)]; rfl
        have g0 : bl (enc c ++ rest) 0 = 224 + c / 4096 := by rw [e]; exact byte_of _ (by omega) (by omega)
        have g1 : bl (enc c ++ rest) 1 = 128 + c / 64 % 64 := by rw [e]; exact byte_of _ (by omega) (by omega)
        have g2 : bl (enc c ++ rest) 2 = 128 + c % 64 := by rw [e]; exact byte_of _ (by omega) (by omega)
        rw [g0] at q0; rw [g1] at q1; rw [g2] at q2
        have el : (enc c).length = 3 := by rw [e]; rfl
        rw [el] at hlen ⊢
        unfold Lib.decodeN
        rw [if_neg (by omega), if_neg (by omega), if_pos (by omega), if_pos (by omega)]
        exact Prod.ext (by simp; omega) rfl
      · have e : enc c = [(240 + c / 262144).toNat.toUInt8, (128 + c / 4096 % 64).toNat.toUInt8, (128 + c / 64 % 64).toNat.toUInt8, (128 + c % 64).toNat.toUInt8] := by unfold enc Lib.encodeRune; rw [Lib.encodeRuneZ_four (by omega) (by omega)]; rfl
        have g0 : bl (enc c ++ rest) 0 = 240 + c / 262144 := by rw [e]; exact byte_of _ (by omega) (by omega)
        have g1 : bl (enc c ++ rest) 1 = 128 + c / 4096 % 64 := by rw [e]; exact byte_of _ (by omega) (by omega)
        have g2 : bl (enc c ++ rest) 2 = 128 + c / 64 % 64 := by rw [e]; exact byte_of _ (by omega) (by omega)
        have g3 : bl (enc c ++ rest) 3 = 128 + c % 64 := by rw [e]; exact byte_of _ (by omega) (by omega)
        rw [g0] at q0; rw [g1] at q1; rw [g2] at q2; rw [g3] at q3
        have el : (enc c).length = 4 := by rw [e]; rfl
        rw [el] at hlen ⊢
        unfold Lib.decodeN
        rw [if_neg (by omega), if_neg (by omega), if_neg (by omega), if_pos (by omega), if_pos (by omega)]
        exact Prod.ext (by simp; omega) rfl
theorem cln_append {a : List UInt8} (h : vld a = true) (b : List UInt8) : cln (a ++ b) = a ++ cln b := by
  have e := flat_pts' h
  unfold cln
  conv => lhs; rw [← e]
  rw [pts_flat (good_pts' a), flat_append, e]
theorem vld_append {a b : List UInt8} (ha : vld a = true) (hb : vld b = true) : vld (a ++ b) = true := by
  have e := flat_pts' ha
  rw [← e, vld_flat_append (good_pts' a), hb]
theorem cln_length_ge : ∀ (n : Nat) (l : List UInt8), l.length ≤ n → l.length ≤ (cln l).length
  | n, [], _ => Nat.le_refl _
  | 0, x :: t, hn => by simp at hn
  | n + 1, x :: t, hn => by
    have hl : x :: t ≠ [] := by simp
    by_cases hz : sz1 (x :: t) = 0
    · rw [cln_bad hl hz]
      have := cln_length_ge n (List.drop 1 (x :: t)) (by simp at hn ⊢; omega)
      have := enc_length 65533
      rw [List.length_append]
      simp at *
      omega
    · have hp := sz1_toNat_pos hz
      rw [cln_step hl hz]
      have := cln_length_ge n (List.drop (sz1 (x :: t)).toNat (x :: t)) (by simp at hn ⊢; omega)
      rw [List.length_append, List.length_take, List.length_drop] at *
      omega
theorem array_eq {s : ByteArray} {l : List UInt8} (h : s.data.toList = l) : (⟨l.toArray⟩ : ByteArray) = s := by
  subst h
  cases s
  simp
theorem bytes_append (a b : ByteArray) : (a ++ b).data.toList = a.data.toList ++ b.data.toList := by
  rw [ByteArray.data_append, Array.toList_append]
/-- A place of a text: where a code point begins (or the end), or within one. -/
theorem place_cases : ∀ (cs : List Int) (k : Nat), k ≤ (flat cs).length →
    (∃ cs1 cs2, cs = cs1 ++ cs2 ∧ k = (flat cs1).length) ∨ (∃ cs1 c cs2 j, cs = cs1 ++ c :: cs2 ∧ k = (flat cs1).length + j ∧ 0 < j ∧ j < (enc c).length)
  | [], k, h => Or.inl ⟨[], [], rfl, by simp [flat] at h ⊢; exact h⟩
  | c :: cs, k, h => by
    rw [flat_cons, List.length_append] at h
    by_cases h0 : k = 0
    · exact Or.inl ⟨[], c :: cs, rfl, by rw [h0]; rfl⟩
    · by_cases h1 : k < (enc c).length
      · exact Or.inr ⟨[], c, cs, k, rfl, by simp [flat], by omega, h1⟩
      · rcases place_cases cs (k - (enc c).length) (by omega) with ⟨cs1, cs2, e, hk⟩ | ⟨cs1, d, cs2, j, e, hk, hj⟩
        · exact Or.inl ⟨c :: cs1, cs2, by rw [e]; rfl, by rw [flat_cons, List.length_append]; omega⟩
        · exact Or.inr ⟨c :: cs1, d, cs2, j, by rw [e]; rfl, by rw [flat_cons, List.length_append]; omega, hj⟩
theorem good_left {a b : List Int} (h : Good (a ++ b)) : Good a := fun x hx => h x (List.mem_append.2 (Or.inl hx))
theorem good_right {a b : List Int} (h : Good (a ++ b)) : Good b := fun x hx => h x (List.mem_append.2 (Or.inr hx))
theorem edge_join (a b : ByteArray) (ha : vld a.data.toList = true) (hb : vld b.data.toList = true) (k : Nat) (hk : k ≤ a.size) : edg (a ++ b) (k : Int) = edg a (k : Int) := by
  have ea := flat_pts' ha
  have eb := flat_pts' hb
  have ga := good_pts' a.data.toList
  have gb := good_pts' b.data.toList
  have hl : (flat (pts a.data.toList)).length = a.size := by rw [ea]; rfl
  rcases place_cases (pts a.data.toList) k (by omega) with ⟨cs1, cs2, e, rfl⟩ | ⟨cs1, c, cs2, j, e, rfl, h0, h1⟩
  · rw [e] at ga ea
    rw [edge_start (s := a) (cs1 := cs1) (cs2 := cs2) (by rw [← ea, flat_append]) (good_left ga) (good_right ga)]
    exact edge_start (s := a ++ b) (cs1 := cs1) (cs2 := cs2 ++ pts b.data.toList) (by rw [bytes_append, ← ea, ← eb, flat_append, flat_append, pts_flat' gb, List.append_assoc]) (good_left ga) ((good_right ga).append gb)
  · rw [e] at ga ea
    have hc : scalar c := (good_right ga).head
    rw [edge_within (s := a) (cs1 := cs1) (c := c) (cs2 := cs2) (by rw [← ea, flat_append]) hc j h0 h1]
    exact edge_within (s := a ++ b) (cs1 := cs1) (c := c) (cs2 := cs2 ++ pts b.data.toList) (by rw [bytes_append, ← ea, ← eb, flat_append, flat_cons, flat_cons, flat_append, pts_flat' gb]; simp) hc j h0 h1
theorem pts_append {a : List UInt8} (h : vld a = true) (b : List UInt8) : pts (a ++ b) = pts a ++ pts b := by
  have e := flat_pts' h
  conv => lhs; rw [← e]
  exact pts_flat (good_pts' a) b
theorem enc_len (c : Int) (h : scalar c) : (c < 128 ∧ (enc c).length = 1) ∨ (128 ≤ c ∧ c < 2048 ∧ (enc c).length = 2) ∨ (2048 ≤ c ∧ c < 65536 ∧ (enc c).length = 3) ∨ (65536 ≤ c ∧ (enc c).length = 4) := by
  unfold scalar at h
  by_cases g1 : c ≤ 127
  · exact Or.inl ⟨by omega, by unfold enc Lib.encodeRune; rw [Lib.encodeRuneZ_one (by omega) g1]; rfl⟩
  · by_cases g2 : c ≤ 2047
    · exact Or.inr (Or.inl ⟨by omega, by omega, by unfold enc Lib.encodeRune; rw [Lib.encodeRuneZ_two (by omega) g2]; rfl⟩)
    · by_cases g3 : c ≤ 65535
      · exact Or.inr (Or.inr (Or.inl ⟨by omega, by omega, by unfold enc Lib.encodeRune; rw [Lib.encodeRuneZ_three (by omega)]; rfl⟩))
      · exact Or.inr (Or.inr (Or.inr ⟨by omega, by unfold enc Lib.encodeRune; rw [Lib.encodeRuneZ_four (by omega) (by omega)]; rfl⟩))
end Go.Proofs.YtbpklbhaoemkkabDoor
