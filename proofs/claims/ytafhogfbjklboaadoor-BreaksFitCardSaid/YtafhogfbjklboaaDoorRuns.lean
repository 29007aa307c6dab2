/- Plain mathematics of code points: nothing of the program. Plain mathematics of code points, over lists of bytes: nothing of the program. Plain mathematics of code points: texts as rows of numbers. -/
import Derived.Lib.DecodeN
import Derived.Lib.RuneBytes
namespace Go.Proofs.YtafhogfbjklboaaDoor

/-- What sizeWithin answers: of m bytes, the ones behind the first b1, b2, b3, a row's bounds lo, hi of the second, the row's size n. -/
def wi (m b1 b2 b3 lo hi n : Int) : Int :=
  if m < n then 0 else if 1 < n ∧ (b1 < lo ∨ hi < b1) then 0 else if 2 < n ∧ (b2 < 128 ∨ 191 < b2) then 0 else if 3 < n ∧ (b3 < 128 ∨ 191 < b3) then 0 else n

/-- Byte i of s, as a number. -/
def byt (s : ByteArray) (i : Nat) : Int := ((s.get! i).toNat : Int)

theorem byt_of (s : ByteArray) (i : Nat) (h : i < s.size) : byt s i = ((s[i]'h).toNat : Int) := by
  unfold byt
  rw [show s.get! i = s[i]'h from by simp [ByteArray.get!, ByteArray.getElem_eq_getElem_data, h]]

theorem wi_short {m b1 b2 b3 lo hi n : Int} (h : m < n) : wi m b1 b2 b3 lo hi n = 0 := by simp [wi, h]
theorem wi_second {m b1 b2 b3 lo hi n : Int} (h : ¬ m < n) (h1 : 1 < n) (h2 : b1 < lo ∨ hi < b1) : wi m b1 b2 b3 lo hi n = 0 := by
  unfold wi; rw [if_neg h, if_pos ⟨h1, h2⟩]
theorem wi_third {m b1 b2 b3 lo hi n : Int} (h : ¬ m < n) (h1 : 2 < n) (h2 : b2 < 128 ∨ 191 < b2) : wi m b1 b2 b3 lo hi n = 0 := by
  unfold wi; rw [if_neg h]; split
  · rfl
  · rw [if_pos ⟨h1, h2⟩]
theorem wi_fourth {m b1 b2 b3 lo hi n : Int} (h : ¬ m < n) (h1 : 3 < n) (h2 : b3 < 128 ∨ 191 < b3) : wi m b1 b2 b3 lo hi n = 0 := by
  unfold wi; rw [if_neg h]; split
  · rfl
  · split
    · rfl
    · rw [if_pos ⟨h1, h2⟩]
theorem wi_all {m b1 b2 b3 lo hi n : Int} (h : ¬ m < n) (h1 : ¬ (1 < n ∧ (b1 < lo ∨ hi < b1))) (h2 : ¬ (2 < n ∧ (b2 < 128 ∨ 191 < b2))) (h3 : ¬ (3 < n ∧ (b3 < 128 ∨ 191 < b3))) : wi m b1 b2 b3 lo hi n = n := by
  unfold wi; rw [if_neg h, if_neg h1, if_neg h2, if_neg h3]

/-- The table's rows: first and last number, bounds of the first byte, of the second, the size. -/
def tF (k : Nat) : Int := [0, 128, 2048, 4096, 53248, 57344, 65536, 262144, 1048576].getD k 0
def tL (k : Nat) : Int := [127, 2047, 4095, 53247, 55295, 65535, 262143, 1048575, 1114111].getD k 0
def tLo (k : Nat) : Int := [0, 194, 224, 225, 237, 238, 240, 241, 244].getD k 0
def tHi (k : Nat) : Int := [127, 223, 224, 236, 237, 239, 240, 243, 244].getD k 0
def tA (k : Nat) : Int := [0, 128, 160, 128, 128, 128, 144, 128, 128].getD k 0
def tZ (k : Nat) : Int := [0, 191, 191, 191, 159, 191, 191, 191, 143].getD k 0
def tN (k : Nat) : Int := [1, 2, 3, 3, 3, 3, 4, 4, 4].getD k 0

theorem tN_le (k : Nat) (h : k < 9) : 1 ≤ tN k ∧ tN k ≤ 4 := by
  have : k = 0 ∨ k = 1 ∨ k = 2 ∨ k = 3 ∨ k = 4 ∨ k = 5 ∨ k = 6 ∨ k = 7 ∨ k = 8 := by omega
  rcases this with rfl | rfl | rfl | rfl | rfl | rfl | rfl | rfl | rfl <;> decide

/-- The size of the code point that begins with byte b0 and has b1, b2, b3 behind it, of m bytes that are left; 0: none. -/
def szI (m b0 b1 b2 b3 : Int) : Int :=
  if b0 ≤ 127 then wi m b1 b2 b3 0 0 1 else if b0 < 194 then 0 else if b0 ≤ 223 then wi m b1 b2 b3 128 191 2 else if b0 ≤ 224 then wi m b1 b2 b3 160 191 3
  else if b0 ≤ 236 then wi m b1 b2 b3 128 191 3 else if b0 ≤ 237 then wi m b1 b2 b3 128 159 3 else if b0 ≤ 239 then wi m b1 b2 b3 128 191 3
  else if b0 ≤ 240 then wi m b1 b2 b3 144 191 4 else if b0 ≤ 243 then wi m b1 b2 b3 128 191 4 else if b0 ≤ 244 then wi m b1 b2 b3 128 143 4 else 0

theorem row_hit {m b0 b1 b2 b3 : Int} {k : Nat} (hk : k < 9) (h1 : tLo k ≤ b0) (h2 : b0 ≤ tHi k) : szI m b0 b1 b2 b3 = wi m b1 b2 b3 (tA k) (tZ k) (tN k) := by
  have : k = 0 ∨ k = 1 ∨ k = 2 ∨ k = 3 ∨ k = 4 ∨ k = 5 ∨ k = 6 ∨ k = 7 ∨ k = 8 := by omega
  rcases this with rfl | rfl | rfl | rfl | rfl | rfl | rfl | rfl | rfl <;> simp only [tLo, tHi, tA, tZ, tN, List.getD_cons_succ, List.getD_cons_zero] at * <;> unfold szI <;> repeat' split
  all_goals first | rfl | (exfalso; omega)

theorem row_miss {m b0 b1 b2 b3 : Int} (h0 : 0 ≤ b0) (h : ∀ k, k < 9 → ¬ (tLo k ≤ b0 ∧ b0 ≤ tHi k)) : szI m b0 b1 b2 b3 = 0 := by
  have g0 := h 0 (by omega); have g1 := h 1 (by omega); have g2 := h 2 (by omega); have g3 := h 3 (by omega); have g4 := h 4 (by omega)
  have g5 := h 5 (by omega); have g6 := h 6 (by omega); have g7 := h 7 (by omega); have g8 := h 8 (by omega)
  simp only [tLo, tHi, List.getD_cons_succ, List.getD_cons_zero] at g0 g1 g2 g3 g4 g5 g6 g7 g8
  unfold szI
  repeat' split
  all_goals first | rfl | (exfalso; omega)

theorem byt_range (s : ByteArray) (i : Nat) : 0 ≤ byt s i ∧ byt s i < 256 := by
  unfold byt
  have := (s.get! i).toNat_lt
  omega

/-- Size at place i. -/
def szN (s : ByteArray) (i : Nat) : Int := if i < s.size then szI ((s.size : Int) - i) (byt s i) (byt s (i + 1)) (byt s (i + 2)) (byt s (i + 3)) else 0
/-- Size at any number. -/
def szAt (s : ByteArray) (a : Int) : Int := if 0 ≤ a then szN s a.toNat else 0

theorem get!_out (s : ByteArray) (i : Nat) (h : ¬ i < s.size) : s.get! i = 0 := by
  obtain ⟨d⟩ := s
  have : d[i]? = none := Array.getElem?_eq_none (Nat.not_lt.1 h)
  show d[i]! = 0
  rw [getElem!_def, this]
  rfl

theorem byt_extract (s : ByteArray) (i j : Nat) (h : i ≤ s.size) : byt (s.extract i s.size) j = byt s (i + j) := by
  by_cases hj : i + j < s.size
  · rw [byt_of _ j (by rw [ByteArray.size_extract]; omega), byt_of s (i + j) hj]
    simp [ByteArray.getElem_extract]
  · unfold byt
    rw [get!_out _ _ (by rw [ByteArray.size_extract]; omega), get!_out _ _ hj]

end Go.Proofs.YtafhogfbjklboaaDoor
namespace Go.Proofs.YtafhogfbjklboaaDoor

/-- Byte i of a list, as a number. -/
def bl (l : List UInt8) (i : Nat) : Int := ((l.getD i 0).toNat : Int)
theorem bl_range (l : List UInt8) (i : Nat) : 0 ≤ bl l i ∧ bl l i < 256 := by
  unfold bl
  have := (l.getD i 0).toNat_lt
  omega
theorem bl_zero (x : UInt8) (t : List UInt8) : bl (x :: t) 0 = (x.toNat : Int) := rfl
theorem bl_succ (x : UInt8) (t : List UInt8) (i : Nat) : bl (x :: t) (i + 1) = bl t i := by simp [bl]

/-- The size of the code point that begins the list; 0: none. -/
def sz1 (l : List UInt8) : Int := if l = [] then 0 else szI l.length (bl l 0) (bl l 1) (bl l 2) (bl l 3)
def scalar (c : Int) : Prop := (0 ≤ c ∧ c < 55296) ∨ (57344 ≤ c ∧ c ≤ 1114111)
def enc (c : Int) : List UInt8 := Lib.encodeRune c

theorem wi_pos {m b1 b2 b3 lo hi n : Int} (h : 0 < wi m b1 b2 b3 lo hi n) : wi m b1 b2 b3 lo hi n = n ∧ n ≤ m ∧ (1 < n → lo ≤ b1 ∧ b1 ≤ hi) ∧ (2 < n → 128 ≤ b2 ∧ b2 ≤ 191) ∧ (3 < n → 128 ≤ b3 ∧ b3 ≤ 191) := by
  generalize hR : wi m b1 b2 b3 lo hi n = R at *
  unfold wi at hR
  repeat' split at hR
  all_goals first | (exfalso; omega) | (refine ⟨hR.symm, ?_, ?_, ?_, ?_⟩ <;> omega)
theorem wi_range (m b1 b2 b3 lo hi n : Int) (hn : 0 ≤ n) : 0 ≤ wi m b1 b2 b3 lo hi n ∧ wi m b1 b2 b3 lo hi n ≤ n := by
  generalize hR : wi m b1 b2 b3 lo hi n = R at *
  unfold wi at hR
  repeat' split at hR
  all_goals omega

theorem szI_cases {m b0 b1 b2 b3 : Int} (h0 : 0 ≤ b0) (h : 0 < szI m b0 b1 b2 b3) :
    (szI m b0 b1 b2 b3 = 1 ∧ 1 ≤ m ∧ b0 ≤ 127) ∨ (szI m b0 b1 b2 b3 = 2 ∧ 2 ≤ m ∧ 194 ≤ b0 ∧ b0 ≤ 223 ∧ 128 ≤ b1 ∧ b1 ≤ 191) ∨
    (szI m b0 b1 b2 b3 = 3 ∧ 3 ≤ m ∧ (128 ≤ b2 ∧ b2 ≤ 191) ∧ ((b0 = 224 ∧ 160 ≤ b1 ∧ b1 ≤ 191) ∨ (225 ≤ b0 ∧ b0 ≤ 236 ∧ 128 ≤ b1 ∧ b1 ≤ 191) ∨ (b0 = 237 ∧ 128 ≤ b1 ∧ b1 ≤ 159) ∨ (238 ≤ b0 ∧ b0 ≤ 239 ∧ 128 ≤ b1 ∧ b1 ≤ 191))) ∨
    (szI m b0 b1 b2 b3 = 4 ∧ 4 ≤ m ∧ (128 ≤ b2 ∧ b2 ≤ 191) ∧ (128 ≤ b3 ∧ b3 ≤ 191) ∧ ((b0 = 240 ∧ 144 ≤ b1 ∧ b1 ≤ 191) ∨ (241 ≤ b0 ∧ b0 ≤ 243 ∧ 128 ≤ b1 ∧ b1 ≤ 191) ∨ (b0 = 244 ∧ 128 ≤ b1 ∧ b1 ≤ 143))) := by
  rcases Classical.em (∃ k, k < 9 ∧ tLo k ≤ b0 ∧ b0 ≤ tHi k) with ⟨k, hk, g1, g2⟩ | hno
  · have e := row_hit (m := m) (b1 := b1) (b2 := b2) (b3 := b3) hk g1 g2
    rw [e] at h ⊢
    obtain ⟨w0, w1, w2, w3, w4⟩ := wi_pos h
    rw [w0]
    clear e w0 h
    have : k = 0 ∨ k = 1 ∨ k = 2 ∨ k = 3 ∨ k = 4 ∨ k = 5 ∨ k = 6 ∨ k = 7 ∨ k = 8 := by omega
    rcases this with rfl | rfl | rfl | rfl | rfl | rfl | rfl | rfl | rfl <;> simp only [tLo, tHi, tA, tZ, tN, List.getD_cons_succ, List.getD_cons_zero] at *
    · exact Or.inl ⟨by first | rfl | trivial, w1, g2⟩
    · exact Or.inr (Or.inl ⟨by first | rfl | trivial, w1, g1, g2, w2 (by omega)⟩)
    · exact Or.inr (Or.inr (Or.inl ⟨by first | rfl | trivial, w1, w3 (by omega), Or.inl ⟨by omega, w2 (by omega)⟩⟩))
    · exact Or.inr (Or.inr (Or.inl ⟨by first | rfl | trivial, w1, w3 (by omega), Or.inr (Or.inl ⟨g1, g2, w2 (by omega)⟩)⟩))
    · exact Or.inr (Or.inr (Or.inl ⟨by first | rfl | trivial, w1, w3 (by omega), Or.inr (Or.inr (Or.inl ⟨by omega, w2 (by omega)⟩))⟩))
    · exact Or.inr (Or.inr (Or.inl ⟨by first | rfl | trivial, w1, w3 (by omega), Or.inr (Or.inr (Or.inr ⟨g1, g2, w2 (by omega)⟩))⟩))
    · exact Or.inr (Or.inr (Or.inr ⟨by first | rfl | trivial, w1, w3 (by omega), w4 (by omega), Or.inl ⟨by omega, w2 (by omega)⟩⟩))
    · exact Or.inr (Or.inr (Or.inr ⟨by first | rfl | trivial, w1, w3 (by omega), w4 (by omega), Or.inr (Or.inl ⟨g1, g2, w2 (by omega)⟩)⟩))
    · exact Or.inr (Or.inr (Or.inr ⟨by first | rfl | trivial, w1, w3 (by omega), w4 (by omega), Or.inr (Or.inr ⟨by omega, w2 (by omega)⟩)⟩))
  · rw [row_miss h0 (fun k hk hh => hno ⟨k, hk, hh⟩)] at h
    exact absurd h (by omega)

theorem szI_nonneg (m b0 b1 b2 b3 : Int) : 0 ≤ szI m b0 b1 b2 b3 ∧ szI m b0 b1 b2 b3 ≤ 4 := by
  generalize hR : szI m b0 b1 b2 b3 = R at *
  unfold szI at hR
  repeat' split at hR
  all_goals first | omega | (subst hR; have := wi_range m b1 b2 b3 0 0 1 (by omega); omega) | (subst hR; have := wi_range m b1 b2 b3 128 191 2 (by omega); omega) | (subst hR; have := wi_range m b1 b2 b3 160 191 3 (by omega); omega) | (subst hR; have := wi_range m b1 b2 b3 128 191 3 (by omega); omega) | (subst hR; have := wi_range m b1 b2 b3 128 159 3 (by omega); omega) | (subst hR; have := wi_range m b1 b2 b3 144 191 4 (by omega); omega) | (subst hR; have := wi_range m b1 b2 b3 128 191 4 (by omega); omega) | (subst hR; have := wi_range m b1 b2 b3 128 143 4 (by omega); omega)

theorem szI_one {m b0 b1 b2 b3 : Int} (hm : 1 ≤ m) (h0 : b0 ≤ 127) : szI m b0 b1 b2 b3 = 1 := by
  unfold szI wi
  rw [if_pos h0, if_neg (by omega), if_neg (by omega), if_neg (by omega), if_neg (by omega)]
theorem szI_two {m b0 b1 b2 b3 : Int} (hm : 2 ≤ m) (h0 : 194 ≤ b0) (h1 : b0 ≤ 223) (h2 : 128 ≤ b1) (h3 : b1 ≤ 191) : szI m b0 b1 b2 b3 = 2 := by
  unfold szI
  repeat' split
  all_goals first | (exfalso; omega) | exact wi_all (by omega) (by omega) (by omega) (by omega)
theorem szI_three {m b0 b1 b2 b3 : Int} (hm : 3 ≤ m) (h2 : 128 ≤ b2 ∧ b2 ≤ 191) (h : (b0 = 224 ∧ 160 ≤ b1 ∧ b1 ≤ 191) ∨ (225 ≤ b0 ∧ b0 ≤ 236 ∧ 128 ≤ b1 ∧ b1 ≤ 191) ∨ (b0 = 237 ∧ 128 ≤ b1 ∧ b1 ≤ 159) ∨ (238 ≤ b0 ∧ b0 ≤ 239 ∧ 128 ≤ b1 ∧ b1 ≤ 191)) : szI m b0 b1 b2 b3 = 3 := by
  unfold szI
  repeat' split
  all_goals first | (exfalso; omega) | exact wi_all (by omega) (by omega) (by omega) (by omega)
theorem szI_four {m b0 b1 b2 b3 : Int} (hm : 4 ≤ m) (h2 : 128 ≤ b2 ∧ b2 ≤ 191) (h3 : 128 ≤ b3 ∧ b3 ≤ 191) (h : (b0 = 240 ∧ 144 ≤ b1 ∧ b1 ≤ 191) ∨ (241 ≤ b0 ∧ b0 ≤ 243 ∧ 128 ≤ b1 ∧ b1 ≤ 191) ∨ (b0 = 244 ∧ 128 ≤ b1 ∧ b1 ≤ 143)) : szI m b0 b1 b2 b3 = 4 := by
  unfold szI
  repeat' split
  all_goals first | (exfalso; omega) | exact wi_all (by omega) (by omega) (by omega) (by omega)
theorem szI_cont {m b0 b1 b2 b3 : Int} (h0 : 128 ≤ b0) (h1 : b0 < 194) : szI m b0 b1 b2 b3 = 0 := by
  unfold szI
  rw [if_neg (by omega), if_pos h1]

theorem sz1_nonneg (l : List UInt8) : 0 ≤ sz1 l ∧ sz1 l ≤ 4 := by
  unfold sz1
  split
  · omega
  · exact szI_nonneg _ _ _ _ _

theorem byte_of (x : Int) (h0 : 0 ≤ x) (h1 : x < 256) : ((x.toNat.toUInt8).toNat : Int) = x := by
  have : (x.toNat.toUInt8).toNat = x.toNat % 256 := by simp
  rw [this]; omega
theorem byte_eq (x : Int) (b : UInt8) (h : x = (b.toNat : Int)) : x.toNat.toUInt8 = b := by
  apply UInt8.toNat_inj.1
  have hb := b.toNat_lt
  have := byte_of x (by omega) (by omega)
  omega

/-- The number of the code point that begins the list. -/
def dec1 (l : List UInt8) : Int :=
  if sz1 l = 1 then bl l 0 else if sz1 l = 2 then bl l 0 % 32 * 64 + bl l 1 % 64
  else if sz1 l = 3 then bl l 0 % 16 * 4096 + bl l 1 % 64 * 64 + bl l 2 % 64 else if sz1 l = 4 then bl l 0 % 8 * 262144 + bl l 1 % 64 * 4096 + bl l 2 % 64 * 64 + bl l 3 % 64 else 65533

theorem sz1_enc (c : Int) (h : scalar c) (t : List UInt8) : sz1 (enc c ++ t) = ((enc c).length : Int) ∧ dec1 (enc c ++ t) = c := by
  unfold scalar at h
  by_cases h1 : c ≤ 127
  · have e : enc c = [c.toNat.toUInt8] := by unfold enc Lib.encodeRune; rw [Lib.encodeRuneZ_one (by omega) h1]; rfl
    have hs : sz1 (enc c ++ t) = 1 := by
      rw [e]; unfold sz1
      rw [if_neg (by simp)]
      refine szI_one (by simp; omega) ?_
      show (((c.toNat.toUInt8).toNat : Nat) : Int) ≤ 127
      rw [byte_of c (by omega) (by omega)]; exact h1
    refine ⟨by rw [hs, e]; rfl, ?_⟩
    unfold dec1
    rw [if_pos hs, e]
    exact byte_of c (by omega) (by omega)
  · by_cases h2 : c ≤ 2047
    · have e : enc c = [(192 + c / 64).toNat.toUInt8, (128 + c % 64).toNat.toUInt8] := by unfold enc Lib.encodeRune; rw [Lib.encodeRuneZ_two (by omega) h2]; rfl
      have g0 : bl (enc c ++ t) 0 = 192 + c / 64 := by rw [e]; exact byte_of _ (by omega) (by omega)
      have g1 : bl (enc c ++ t) 1 = 128 + c % 64 := by rw [e]; exact byte_of _ (by omega) (by omega)
      have hs : sz1 (enc c ++ t) = 2 := by
        unfold sz1
        rw [if_neg (by rw [e]; simp), g0, g1]
        exact szI_two (by rw [e]; simp; omega) (by omega) (by omega) (by omega) (by omega)
      refine ⟨by rw [hs, e]; rfl, ?_⟩
      unfold dec1
      rw [hs, g0, g1, if_neg (by omega), if_pos rfl]
      omega
    · by_cases h3 : c ≤ 65535
      · have e : enc c = [(224 + c / 4096).toNat.toUInt8, (128 + c / 64 % 64).toNat.toUInt8, (128 + c % 64).toNat.toUInt8] := by unfold enc Lib.encodeRune; rw [Lib.encodeRuneZ_three (by omega)]; rfl
        have g0 : bl (enc c ++ t) 0 = 224 + c / 4096 := by rw [e]; exact byte_of _ (by omega) (by omega)
        have g1 : bl (enc c ++ t) 1 = 128 + c / 64 % 64 := by rw [e]; exact byte_of _ (by omega) (by omega)
        have g2 : bl (enc c ++ t) 2 = 128 + c % 64 := by rw [e]; exact byte_of _ (by omega) (by omega)
        have hs : sz1 (enc c ++ t) = 3 := by
          unfold sz1
          rw [if_neg (by rw [e]; simp), g0, g1, g2]
          exact szI_three (by rw [e]; simp; omega) (by omega) (by omega)
        refine ⟨by rw [hs, e]; rfl, ?_⟩
        unfold dec1
        rw [hs, g0, g1, g2, if_neg (by omega), if_neg (by omega), if_pos rfl]
        omega
      · have e : enc c = [(240 + c / 262144).toNat.toUInt8, (128 + c / 4096 % 64).toNat.toUInt8, (128 + c / 64 % 64).toNat.toUInt8, (128 + c % 64).toNat.toUInt8] := by unfold enc Lib.encodeRune; rw [Lib.encodeRuneZ_four (by omega) (by omega)]; rfl
        have g0 : bl (enc c ++ t) 0 = 240 + c / 262144 := by rw [e]; exact byte_of _ (by omega) (by omega)
        have g1 : bl (enc c ++ t) 1 = 128 + c / 4096 % 64 := by rw [e]; exact byte_of _ (by omega) (by omega)
        have g2 : bl (enc c ++ t) 2 = 128 + c / 64 % 64 := by rw [e]; exact byte_of _ (by omega) (by omega)
        have g3 : bl (enc c ++ t) 3 = 128 + c % 64 := by rw [e]; exact byte_of _ (by omega) (by omega)
        have hs : sz1 (enc c ++ t) = 4 := by
          unfold sz1
          rw [if_neg (by rw [e]; simp), g0, g1, g2, g3]
          exact szI_four (by rw [e]; simp; omega) (by omega) (by omega) (by omega)
        refine ⟨by rw [hs, e]; rfl, ?_⟩
        unfold dec1
        rw [hs, g0, g1, g2, g3, if_neg (by omega), if_neg (by omega), if_neg (by omega), if_pos rfl]
        omega

theorem sz1_pos (l : List UInt8) (h : 0 < sz1 l) : scalar (dec1 l) ∧ ∃ t, l = enc (dec1 l) ++ t := by
  have hne : l ≠ [] := by intro e; subst e; simp [sz1] at h
  have hz : sz1 l = szI l.length (bl l 0) (bl l 1) (bl l 2) (bl l 3) := by unfold sz1; rw [if_neg hne]
  rw [hz] at h
  have r0 := bl_range l 0; have r1 := bl_range l 1; have r2 := bl_range l 2; have r3 := bl_range l 3
  rcases szI_cases r0.1 h with ⟨e, hm, g⟩ | ⟨e, hm, g1, g2, g3, g4⟩ | ⟨e, hm, g2, g⟩ | ⟨e, hm, g2, g3, g⟩
  · match l, hm with
    | x :: t, _ =>
      have hd : dec1 (x :: t) = bl (x :: t) 0 := by unfold dec1; rw [hz, e, if_pos rfl]
      rw [hd]
      refine ⟨by unfold scalar; omega, t, ?_⟩
      unfold enc Lib.encodeRune
      rw [Lib.encodeRuneZ_one (by omega) g]
      simp only [List.map_cons, List.map_nil, List.cons_append, List.nil_append]
      rw [byte_eq (bl (x :: t) 0) x rfl]
  · match l, hm with
    | [x], hm => exact absurd hm (by simp)
    | x :: y :: t, _ =>
      have hd : dec1 (x :: y :: t) = bl (x :: y :: t) 0 % 32 * 64 + bl (x :: y :: t) 1 % 64 := by unfold dec1; rw [hz, e, if_neg (by omega), if_pos rfl]
      rw [hd]
      have q0 : bl (x :: y :: t) 0 = (x.toNat : Int) := rfl
      have q1 : bl (x :: y :: t) 1 = (y.toNat : Int) := rfl
      generalize bl (x :: y :: t) 0 = b0 at *
      generalize bl (x :: y :: t) 1 = b1 at *
      refine ⟨by unfold scalar; omega, t, ?_⟩
      unfold enc Lib.encodeRune
      rw [Lib.encodeRuneZ_two (by omega) (by omega)]
      simp only [List.map_cons, List.map_nil, List.cons_append, List.nil_append]
      rw [byte_eq _ x (by omega), byte_eq _ y (by omega)]
  · match l, hm with
    | [x], hm => exact absurd hm (by simp)
    | [x, y], hm => exact absurd hm (by simp)
    | x :: y :: z :: t, _ =>
      have hd : dec1 (x :: y :: z :: t) = bl (x :: y :: z :: t) 0 % 16 * 4096 + bl (x :: y :: z :: t) 1 % 64 * 64 + bl (x :: y :: z :: t) 2 % 64 := by unfold dec1; rw [hz, e, if_neg (by omega), if_neg (by omega), if_pos rfl]
      rw [hd]
      have q0 : bl (x :: y :: z :: t) 0 = (x.toNat : Int) := rfl
      have q1 : bl (x :: y :: z :: t) 1 = (y.toNat : Int) := rfl
      have q2 : bl (x :: y :: z :: t) 2 = (z.toNat : Int) := rfl
      generalize bl (x :: y :: z :: t) 0 = b0 at *
      generalize bl (x :: y :: z :: t) 1 = b1 at *
      generalize bl (x :: y :: z :: t) 2 = b2 at *
      refine ⟨by unfold scalar; omega, t, ?_⟩
      unfold enc Lib.encodeRune
      rw [Lib.encodeRuneZ_three (by omega)]
      simp only [List.map_cons, List.map_nil, List.cons_append, List.nil_append]
      rw [byte_eq _ x (by omega), byte_eq _ y (by omega), byte_eq _ z (by omega)]
  · match l, hm with
    | [x], hm => exact absurd hm (by simp)
    | [x, y], hm => exact absurd hm (by simp)
    | [x, y, z], hm => exact absurd hm (by simp)
    | x :: y :: z :: u :: t, _ =>
      have hd : dec1 (x :: y :: z :: u :: t) = bl (x :: y :: z :: u :: t) 0 % 8 * 262144 + bl (x :: y :: z :: u :: t) 1 % 64 * 4096 + bl (x :: y :: z :: u :: t) 2 % 64 * 64 + bl (x :: y :: z :: u :: t) 3 % 64 := by unfold dec1; rw [hz, e, if_neg (by omega), if_neg (by omega), if_neg (by omega), if_pos rfl]
      rw [hd]
      have q0 : bl (x :: y :: z :: u :: t) 0 = (x.toNat : Int) := rfl
      have q1 : bl (x :: y :: z :: u :: t) 1 = (y.toNat : Int) := rfl
      have q2 : bl (x :: y :: z :: u :: t) 2 = (z.toNat : Int) := rfl
      have q3 : bl (x :: y :: z :: u :: t) 3 = (u.toNat : Int) := rfl
      generalize bl (x :: y :: z :: u :: t) 0 = b0 at *
      generalize bl (x :: y :: z :: u :: t) 1 = b1 at *
      generalize bl (x :: y :: z :: u :: t) 2 = b2 at *
      generalize bl (x :: y :: z :: u :: t) 3 = b3 at *
      refine ⟨by unfold scalar; omega, t, ?_⟩
      unfold enc Lib.encodeRune
      rw [Lib.encodeRuneZ_four (by omega) (by omega)]
      simp only [List.map_cons, List.map_nil, List.cons_append, List.nil_append]
      rw [byte_eq _ x (by omega), byte_eq _ y (by omega), byte_eq _ z (by omega), byte_eq _ u (by omega)]

theorem enc_length (c : Int) : 1 ≤ (enc c).length ∧ (enc c).length ≤ 4 := by
  have := Lib.encodeRuneZ_length c
  simpa [enc, Lib.encodeRune] using this

/-- szN, by the list. -/
theorem szN_eq (s : ByteArray) (i : Nat) : szN s i = sz1 (s.data.toList.drop i) := by
  have hb : ∀ j, byt s (i + j) = bl (s.data.toList.drop i) j := by
    intro j
    by_cases h : i + j < s.size
    · rw [byt_of s _ h]
      unfold bl
      have : (s.data.toList.drop i).getD j 0 = s[i + j] := by
        simp [List.getD_eq_getElem?_getD, List.getElem?_drop]
        rw [Array.getElem?_eq_getElem (by simpa using h)]
        rfl
      rw [this]
    · unfold byt bl
      rw [get!_out s _ h, List.getD_eq_getElem?_getD, List.getElem?_eq_none (by simp; have : s.data.size = s.size := rfl; omega)]
      rfl
  unfold szN sz1
  have hl : (s.data.toList.drop i).length = s.size - i := by rw [List.length_drop]; rfl
  by_cases h : i < s.size
  · rw [if_pos h, if_neg (by intro e; rw [e] at hl; simp at hl; omega), hl, hb 1, hb 2, hb 3, ← hb 0]
    congr 1
    omega
  · rw [if_neg h, if_pos (List.eq_nil_of_length_eq_zero (by omega))]
end Go.Proofs.YtafhogfbjklboaaDoor
namespace Go.Proofs.YtafhogfbjklboaaDoor

def flat (cs : List Int) : List UInt8 := cs.flatMap enc
def Good (cs : List Int) : Prop := ∀ c, c ∈ cs → scalar c

theorem flat_nil : flat [] = [] := rfl
theorem flat_cons (c : Int) (cs : List Int) : flat (c :: cs) = enc c ++ flat cs := by simp [flat]
theorem flat_append (a b : List Int) : flat (a ++ b) = flat a ++ flat b := by simp [flat]
theorem Good.tail {c : Int} {cs : List Int} (h : Good (c :: cs)) : Good cs := fun x hx => h x (List.mem_cons_of_mem _ hx)
theorem Good.head {c : Int} {cs : List Int} (h : Good (c :: cs)) : scalar c := h c (List.mem_cons_self ..)
theorem Good.cons {c : Int} {cs : List Int} (hc : scalar c) (h : Good cs) : Good (c :: cs) := by
  intro x hx
  rcases List.mem_cons.1 hx with rfl | hx
  · exact hc
  · exact h x hx
theorem Good.append {a b : List Int} (ha : Good a) (hb : Good b) : Good (a ++ b) := by
  intro x hx
  rcases List.mem_append.1 hx with hx | hx
  · exact ha x hx
  · exact hb x hx
theorem good_nil : Good [] := by intro x hx; cases hx
theorem scalar_bad : scalar 65533 := by unfold scalar; omega

theorem enc_ne (c : Int) : enc c ≠ [] := by
  intro e
  have := enc_length c
  rw [e] at this
  simp at this

/-- The numbers of the code points, what is none as FFFD. -/
def ptsF : Nat → List UInt8 → List Int
  | 0, _ => []
  | f + 1, l => if l = [] then [] else if sz1 l = 0 then 65533 :: ptsF f (l.drop 1) else dec1 l :: ptsF f (l.drop (sz1 l).toNat)
def pts (l : List UInt8) : List Int := ptsF l.length l

def vldF : Nat → List UInt8 → Bool
  | 0, _ => true
  | f + 1, l => if l = [] then true else if sz1 l = 0 then false else vldF f (l.drop (sz1 l).toNat)
def vld (l : List UInt8) : Bool := vldF l.length l

theorem sz1_toNat_pos {l : List UInt8} (h : sz1 l ≠ 0) : 1 ≤ (sz1 l).toNat ∧ (sz1 l).toNat ≤ 4 := by
  have := sz1_nonneg l
  omega

theorem ptsF_fuel : ∀ (f g : Nat) (l : List UInt8), l.length ≤ f → l.length ≤ g → ptsF f l = ptsF g l
  | 0, g, l, hf, _ => by
    have : l = [] := List.eq_nil_of_length_eq_zero (by omega)
    subst this
    cases g <;> simp [ptsF]
  | f + 1, 0, l, _, hg => by
    have : l = [] := List.eq_nil_of_length_eq_zero (by omega)
    subst this
    simp [ptsF]
  | f + 1, g + 1, l, hf, hg => by
    unfold ptsF
    by_cases hl : l = []
    · rw [if_pos hl, if_pos hl]
    · have hp : 1 ≤ l.length := by cases l with | nil => exact absurd rfl hl | cons => simp
      rw [if_neg hl, if_neg hl]
      by_cases hz : sz1 l = 0
      · rw [if_pos hz, if_pos hz, ptsF_fuel f g _ (by simp; omega) (by simp; omega)]
      · have := sz1_toNat_pos hz
        rw [if_neg hz, if_neg hz, ptsF_fuel f g _ (by simp; omega) (by simp; omega)]

theorem vldF_fuel : ∀ (f g : Nat) (l : List UInt8), l.length ≤ f → l.length ≤ g → vldF f l = vldF g l
  | 0, g, l, hf, _ => by
    have : l = [] := List.eq_nil_of_length_eq_zero (by omega)
    subst this
    cases g <;> simp [vldF]
  | f + 1, 0, l, _, hg => by
    have : l = [] := List.eq_nil_of_length_eq_zero (by omega)
    subst this
    simp [vldF]
  | f + 1, g + 1, l, hf, hg => by
    unfold vldF
    by_cases hl : l = []
    · rw [if_pos hl, if_pos hl]
    · have hp : 1 ≤ l.length := by cases l with | nil => exact absurd rfl hl | cons => simp
      rw [if_neg hl, if_neg hl]
      by_cases hz : sz1 l = 0
      · rw [if_pos hz, if_pos hz]
      · have := sz1_toNat_pos hz
        rw [if_neg hz, if_neg hz, vldF_fuel f g _ (by simp; omega) (by simp; omega)]

theorem pts_nil : pts [] = [] := rfl
theorem vld_nil : vld [] = true := rfl
theorem pts_bad {l : List UInt8} (hl : l ≠ []) (hz : sz1 l = 0) : pts l = 65533 :: pts (l.drop 1) := by
  have hp : 1 ≤ l.length := by cases l with | nil => exact absurd rfl hl | cons => simp
  show ptsF l.length l = _
  obtain ⟨n, hn⟩ : ∃ n, l.length = n + 1 := ⟨l.length - 1, by omega⟩
  rw [hn]
  unfold ptsF
  rw [if_neg hl, if_pos hz]
  congr 1
  exact ptsF_fuel _ _ _ (by simp; omega) (by simp)
theorem pts_step {l : List UInt8} (hl : l ≠ []) (hz : sz1 l ≠ 0) : pts l = dec1 l :: pts (l.drop (sz1 l).toNat) := by
  have hp : 1 ≤ l.length := by cases l with | nil => exact absurd rfl hl | cons => simp
  have := sz1_toNat_pos hz
  show ptsF l.length l = _
  obtain ⟨n, hn⟩ : ∃ n, l.length = n + 1 := ⟨l.length - 1, by omega⟩
  rw [hn]
  unfold ptsF
  rw [if_neg hl, if_neg hz]
  congr 1
  exact ptsF_fuel _ _ _ (by simp; omega) (by simp)
theorem vld_bad {l : List UInt8} (hl : l ≠ []) (hz : sz1 l = 0) : vld l = false := by
  have hp : 1 ≤ l.length := by cases l with | nil => exact absurd rfl hl | cons => simp
  show vldF l.length l = _
  obtain ⟨n, hn⟩ : ∃ n, l.length = n + 1 := ⟨l.length - 1, by omega⟩
  rw [hn]
  unfold vldF
  rw [if_neg hl, if_pos hz]
theorem vld_step {l : List UInt8} (hl : l ≠ []) (hz : sz1 l ≠ 0) : vld l = vld (l.drop (sz1 l).toNat) := by
  have hp : 1 ≤ l.length := by cases l with | nil => exact absurd rfl hl | cons => simp
  have := sz1_toNat_pos hz
  show vldF l.length l = _
  obtain ⟨n, hn⟩ : ∃ n, l.length = n + 1 := ⟨l.length - 1, by omega⟩
  rw [hn]
  unfold vldF
  rw [if_neg hl, if_neg hz]
  exact vldF_fuel _ _ _ (by simp; omega) (by simp)

theorem enc_append_ne (c : Int) (t : List UInt8) : enc c ++ t ≠ [] := by
  intro e
  exact enc_ne c (List.append_eq_nil_iff.1 e).1

theorem step_enc {c : Int} (h : scalar c) (t : List UInt8) : sz1 (enc c ++ t) ≠ 0 ∧ (sz1 (enc c ++ t)).toNat = (enc c).length ∧ dec1 (enc c ++ t) = c := by
  obtain ⟨h1, h2⟩ := sz1_enc c h t
  have := enc_length c
  rw [h1]
  exact ⟨by omega, by simp, h2⟩
theorem pts_enc {c : Int} (h : scalar c) (t : List UInt8) : pts (enc c ++ t) = c :: pts t := by
  obtain ⟨h1, h2, h3⟩ := step_enc h t
  rw [pts_step (enc_append_ne c t) h1, h2, h3, List.drop_left']
  rfl
theorem vld_enc {c : Int} (h : scalar c) (t : List UInt8) : vld (enc c ++ t) = vld t := by
  obtain ⟨h1, h2, h3⟩ := step_enc h t
  rw [vld_step (enc_append_ne c t) h1, h2, List.drop_left']
  rfl
theorem pts_flat {cs : List Int} (h : Good cs) (t : List UInt8) : pts (flat cs ++ t) = cs ++ pts t := by
  induction cs with
  | nil => rfl
  | cons c cs ih => rw [flat_cons, List.append_assoc, pts_enc h.head, ih h.tail]; rfl
theorem vld_flat_append {cs : List Int} (h : Good cs) (t : List UInt8) : vld (flat cs ++ t) = vld t := by
  induction cs with
  | nil => rfl
  | cons c cs ih => rw [flat_cons, List.append_assoc, vld_enc h.head, ih h.tail]
theorem vld_flat {cs : List Int} (h : Good cs) : vld (flat cs) = true := by
  have := vld_flat_append h []
  rw [List.append_nil] at this
  rw [this]; rfl
theorem pts_flat' {cs : List Int} (h : Good cs) : pts (flat cs) = cs := by
  have := pts_flat h []
  rw [List.append_nil] at this
  rw [this, pts_nil, List.append_nil]

theorem sz1_split {l : List UInt8} (h : sz1 l ≠ 0) : scalar (dec1 l) ∧ l = enc (dec1 l) ++ l.drop (sz1 l).toNat ∧ (enc (dec1 l)).length = (sz1 l).toNat := by
  have := sz1_nonneg l
  obtain ⟨hs, t, ht⟩ := sz1_pos l (by omega)
  have h2 := step_enc hs t
  rw [← ht] at h2
  refine ⟨hs, ?_, h2.2.1.symm⟩
  have : l.drop (sz1 l).toNat = t := by
    rw [h2.2.1]
    conv => lhs; arg 2; rw [ht]
    exact List.drop_left' rfl
  rw [this]
  exact ht

/-- A text that is valid is its numbers' bytes. -/
theorem flat_pts : ∀ (n : Nat) (l : List UInt8), l.length ≤ n → vld l = true → flat (pts l) = l
  | n, [], _, _ => rfl
  | 0, x :: t, hn, _ => by simp at hn
  | n + 1, x :: t, hn, hv => by
    have hl : x :: t ≠ [] := by simp
    by_cases hz : sz1 (x :: t) = 0
    · rw [vld_bad hl hz] at hv; cases hv
    · have hp := sz1_toNat_pos hz
      rw [vld_step hl hz] at hv
      obtain ⟨h1, h2, h3⟩ := sz1_split hz
      rw [pts_step hl hz, flat_cons, flat_pts n _ (by simp at hn ⊢; omega) hv]
      exact h2.symm
theorem flat_pts' {l : List UInt8} (h : vld l = true) : flat (pts l) = l := flat_pts _ l (Nat.le_refl _) h

theorem good_pts : ∀ (n : Nat) (l : List UInt8), l.length ≤ n → Good (pts l)
  | n, [], _ => good_nil
  | 0, x :: t, hn => by simp at hn
  | n + 1, x :: t, hn => by
    have hl : x :: t ≠ [] := by simp
    by_cases hz : sz1 (x :: t) = 0
    · rw [pts_bad hl hz]
      exact Good.cons scalar_bad (good_pts n _ (by simp at hn ⊢; omega))
    · have hp := sz1_toNat_pos hz
      rw [pts_step hl hz]
      exact Good.cons (sz1_split hz).1 (good_pts n _ (by simp at hn ⊢; omega))
theorem good_pts' (l : List UInt8) : Good (pts l) := good_pts _ l (Nat.le_refl _)

/-- Clean. -/
def cln (l : List UInt8) : List UInt8 := flat (pts l)
theorem cln_valid (l : List UInt8) : vld (cln l) = true := vld_flat (good_pts' l)
theorem cln_of_valid {l : List UInt8} (h : vld l = true) : cln l = l := flat_pts' h
theorem pts_cln (l : List UInt8) : pts (cln l) = pts l := pts_flat' (good_pts' l)

/-- Valid texts are just these. -/
theorem vld_iff (l : List UInt8) : vld l = true ↔ ∃ cs, Good cs ∧ l = flat cs :=
  ⟨fun h => ⟨pts l, good_pts' l, (flat_pts' h).symm⟩, fun ⟨_, hg, e⟩ => e ▸ vld_flat hg⟩

theorem flat_length_ge (cs : List Int) : cs.length ≤ (flat cs).length ∧ (flat cs).length ≤ 4 * cs.length := by
  induction cs with
  | nil => simp [flat]
  | cons c cs ih =>
    have := enc_length c
    rw [flat_cons, List.length_append, List.length_cons]
    omega
theorem pts_length_le : ∀ (n : Nat) (l : List UInt8), l.length ≤ n → (pts l).length ≤ l.length
  | n, [], _ => Nat.le_refl _
  | 0, x :: t, hn => by simp at hn
  | n + 1, x :: t, hn => by
    have hl : x :: t ≠ [] := by simp
    by_cases hz : sz1 (x :: t) = 0
    · rw [pts_bad hl hz]
      have := pts_length_le n (List.drop 1 (x :: t)) (by simp at hn ⊢; omega)
      simp at this ⊢
      omega
    · have hp := sz1_toNat_pos hz
      rw [pts_step hl hz]
      have := pts_length_le n (List.drop (sz1 (x :: t)).toNat (x :: t)) (by simp at hn ⊢; omega)
      simp at this ⊢
      omega
theorem pts_length (l : List UInt8) : (pts l).length ≤ l.length := pts_length_le _ l (Nat.le_refl _)
theorem cln_length (l : List UInt8) : (cln l).length ≤ 4 * l.length := by
  have h1 := (flat_length_ge (pts l)).2
  have h2 := pts_length l
  unfold cln
  omega
end Go.Proofs.YtafhogfbjklboaaDoor
