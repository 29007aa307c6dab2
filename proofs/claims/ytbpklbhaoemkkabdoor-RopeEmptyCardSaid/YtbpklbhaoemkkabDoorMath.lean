/- Plain mathematics of code points: nothing of the program. -/
import Derived.Lib.DecodeN
import Derived.Lib.RuneBytes
namespace Go.Proofs.YtbpklbhaoemkkabDoor

/-- What sizeWithin answers: of m bytes, the ones behind the first b1, b2, b3, a row's bounds lo, hi of the second, the row's size n. -/
def wi (m b1 b2 b3 lo hi n : Int) : Int :=
  if m < n then 0 else if 1 < n ∧ (b1 < lo ∨ hi < b1) then 0 else if 2 < n ∧ (b2 < 128 ∨ 191 < b2) then 0 else if 3 < n ∧ (b3 < 128 ∨ 191 < b3) then 0 else n

/-- Byte i of s, as a number. -/
def byt (s : ByteArray) (i : Nat) : Int := ((s.get! i).toNat : Int)

theorem byt_of (s : ByteArray) (i : Nat) (h : i < s.size) : byt s i = ((s[i]'h).toNat : Int) := by
  unfold byt
  rw [show s.get! i = s[i]'h from by simp [ByteArray.get!, ByteArray.getElem_eq_getElem_data, h]]

theorem wi_short {m b1 b2 b3 lo hi n : Int} (h : m < n) : wi m b1 b2 b3 lo hi n = 0 := by simp [wi, h]
theorem wi_second {m b1 b2 b3 lo hi n : Int} (h : ¬ m < n) (h1 : 1 < n) (h2 : b1 < lo ∨ hi < b1) : wi m b1 b2 b3 lo hi n = 0 := by
  unfold wi; rw [if_neg h, if_pos ⟨h1, h2⟩]
theorem wi_third {m b1 b2 b3 lo hi n : Int} (h : ¬ m < n) (h1 : 2 < n) (h2 : b2 < 128 ∨ 191 < b2) : wi m b1 b2 b3 lo hi n = 0 := by
  unfold wi; rw [if_neg h]; split
  · rfl
  · rw [if_pos ⟨h1, h2⟩]
theorem wi_fourth {m b1 b2 b3 lo hi n : Int} (h : ¬ m < n) (h1 : 3 < n) (h2 : b3 < 128 ∨ 191 < b3) : wi m b1 b2 b3 lo hi n = 0 := by
  unfold wi; rw [if_neg h]; split
  · rfl
  · split
    · rfl
    · rw [if_pos ⟨h1, h2⟩]
theorem wi_all {m b1 b2 b3 lo hi n : Int} (h : ¬ m < n) (h1 : ¬ (1 < n ∧ (b1 < lo ∨ hi < b1))) (h2 : ¬ (2 < n ∧ (b2 < 128 ∨ 191 < b2))) (h3 : ¬ (3 < n ∧ (b3 < 128 ∨ 191 < b3))) : wi m b1 b2 b3 lo hi n = n := by
  unfold wi; rw [if_neg h, if_neg h1, if_neg h2, if_neg h3]

/-- The table's rows: first and last number, bounds of the first byte, of the second, the size. -/
def tF (k : Nat) : Int := [0, 128, 2048, 4096, 53248, 57344, 65536, 262144, 1048576].getD k 0
def tL (k : Nat) : Int := [127, 2047, 4095, 53247, 55295, 65535, 262143, 1048575, 1114111].getD k 0
def tLo (k : Nat) : Int := [0, 194, 224, 225, 237, 238, 240, 241, 244].getD k 0
def tHi (k : Nat) : Int := [127, 223, 224, 236, 237, 239, 240, 243, 244].getD k 0
def tA (k : Nat) : Int := [0, 128, 160, 128, 128, 128, 144, 128, 128].getD k 0
def tZ (k : Nat) : Int := [0, 191, 191, 191, 159, 191, 191, 191, 143].getD k 0
def tN (k : Nat) : Int := [1, 2, 3, 3, 3, 3, 4, 4, 4].getD k 0

theorem tN_le (k : Nat) (h : k < 9) : 1 ≤ tN k ∧ tN k ≤ 4 := by
  have : k = 0 ∨ k = 1 ∨ k = 2 ∨ k = 3 ∨ k = 4 ∨ k = 5 ∨ k = 6 ∨ k = 7 ∨ k = 8 := by omega
  rcases this with rfl | rfl | rfl | rfl | rfl | rfl | rfl | rfl | rfl <;> decide

/-- The size of the code point that begins with byte b0 and has b1, b2, b3 behind it, of m bytes that are left; 0: none. -/
def szI (m b0 b1 b2 b3 : Int) : Int :=
  if b0 ≤ 127 then wi m b1 b2 b3 0 0 1 else if b0 < 194 then 0 else if b0 ≤ 223 then wi m b1 b2 b3 128 191 2 else if b0 ≤ 224 then wi m b1 b2 b3 160 191 3
  else if b0 ≤ 236 then wi m b1 b2 b3 128 191 3 else if b0 ≤ 237 then wi m b1 b2 b3 128 159 3 else if b0 ≤ 239 then wi m b1 b2 b3 128 191 3
  else if b0 ≤ 240 then wi m b1 b2 b3 144 191 4 else if b0 ≤ 243 then wi m b1 b2 b3 128 191 4 else if b0 ≤ 244 then wi m b1 b2 b3 128 143 4 else 0

theorem row_hit {m b0 b1 b2 b3 : Int} {k : Nat} (hk : k < 9) (h1 : tLo k ≤ b0) (h2 : b0 ≤ tHi k) : szI m b0 b1 b2 b3 = wi m b1 b2 b3 (tA k) (tZ k) (tN k) := by
  have : k = 0 ∨ k = 1 ∨ k = 2 ∨ k = 3 ∨ k = 4 ∨ k = 5 ∨ k = 6 ∨ k = 7 ∨ k = 8 := by omega
  rcases this with rfl | rfl | rfl | rfl | rfl | rfl | rfl | rfl | rfl <;> simp only [tLo, tHi, tA, tZ, tN, List.getD_cons_succ, List.getD_cons_zero] at * <;> unfold szI <;> repeat' split
  all_goals first | rfl | (exfalso; omega)

theorem row_miss {m b0 b1 b2 b3 : Int} (h0 : 0 ≤ b0) (h : ∀ k, k < 9 → ¬ (tLo k ≤ b0 ∧ b0 ≤ tHi k)) : szI m b0 b1 b2 b3 = 0 := by
  have g0 := h 0 (by omega); have g1 := h 1 (by omega); have g2 := h 2 (by omega); have g3 := h 3 (by omega); have g4 := h 4 (by omega)
  have g5 := h 5 (by omega); have g6 := h 6 (by omega); have g7 := h 7 (by omega); have g8 := h 8 (by omega)
  simp only [tLo, tHi, List.getD_cons_succ, List.getD_cons_zero] at g0 g1 g2 g3 g4 g5 g6 g7 g8
  unfold szI
  repeat' split
  all_goals first | rfl | (exfalso; omega)

theorem byt_range (s : ByteArray) (i : Nat) : 0 ≤ byt s i ∧ byt s i < 256 := by
  unfold byt
  have := (s.get! i).toNat_lt
  omega

/-- Size at place i. -/
def szN (s : ByteArray) (i : Nat) : Int := if i < s.size then szI ((s.size : Int) - i) (byt s i) (byt s (i + 1)) (byt s (i + 2)) (byt s (i + 3)) else 0
/-- Size at any number. -/
def szAt (s : ByteArray) (a : Int) : Int := if 0 ≤ a then szN s a.toNat else 0

theorem get!_out (s : ByteArray) (i : Nat) (h : ¬ i < s.size) : s.get! i = 0 := by
  obtain ⟨d⟩ := s
  have : d[i]? = none := Array.getElem?_eq_none (Nat.not_lt.1 h)
  show d[i]! = 0
  rw [getElem!_def, this]
  rfl

theorem byt_extract (s : ByteArray) (i j : Nat) (h : i ≤ s.size) : byt (s.extract i s.size) j = byt s (i + j) := by
  by_cases hj : i + j < s.size
  · rw [byt_of _ j (by rw [ByteArray.size_extract]; omega), byt_of s (i + j) hj]
    simp [ByteArray.getElem_extract]
  · unfold byt
    rw [get!_out _ _ (by rw [ByteArray.size_extract]; omega), get!_out _ _ hj]

end Go.Proofs.YtbpklbhaoemkkabDoor
