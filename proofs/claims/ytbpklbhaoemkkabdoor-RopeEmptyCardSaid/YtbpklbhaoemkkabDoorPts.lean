/- Plain mathematics of code points, over lists of bytes: nothing of the program. -/
import Derived.Test.YtbpklbhaoemkkabDoorMath
namespace Go.Proofs.YtbpklbhaoemkkabDoor

/-- Byte i of a list, as a number. -/
def bl (l : List UInt8) (i : Nat) : Int := ((l.getD i 0).toNat : Int)
theorem bl_range (l : List UInt8) (i : Nat) : 0 ≤ bl l i ∧ bl l i < 256 := by
  unfold bl
  have := (l.getD i 0).toNat_lt
  omega
theorem bl_zero (x : UInt8) (t : List UInt8) : bl (x :: t) 0 = (x.toNat : Int) := rfl
theorem bl_succ (x : UInt8) (t : List UInt8) (i : Nat) : bl (x :: t) (i + 1) = bl t i := by simp [bl]

/-- The size of the code point that begins the list; 0: none. -/
def sz1 (l : List UInt8) : Int := if l = [] then 0 else szI l.length (bl l 0) (bl l 1) (bl l 2) (bl l 3)
def scalar (c : Int) : Prop := (0 ≤ c ∧ c < 55296) ∨ (57344 ≤ c ∧ c ≤ 1114111)
def enc (c : Int) : List UInt8 := Lib.encodeRune c

theorem wi_pos {m b1 b2 b3 lo hi n : Int} (h : 0 < wi m b1 b2 b3 lo hi n) : wi m b1 b2 b3 lo hi n = n ∧ n ≤ m ∧ (1 < n → lo ≤ b1 ∧ b1 ≤ hi) ∧ (2 < n → 128 ≤ b2 ∧ b2 ≤ 191) ∧ (3 < n → 128 ≤ b3 ∧ b3 ≤ 191) := by
  generalize hR : wi m b1 b2 b3 lo hi n = R at *
  unfold wi at hR
  repeat' split at hR
  all_goals first | (exfalso; omega) | (refine ⟨hR.symm, ?_, ?_, ?_, ?_⟩ <;> omega)
theorem wi_range (m b1 b2 b3 lo hi n : Int) (hn : 0 ≤ n) : 0 ≤ wi m b1 b2 b3 lo hi n ∧ wi m b1 b2 b3 lo hi n ≤ n := by
  generalize hR : wi m b1 b2 b3 lo hi n = R at *
  unfold wi at hR
  repeat' split at hR
  all_goals omega

theorem szI_cases {m b0 b1 b2 b3 : Int} (h0 : 0 ≤ b0) (h : 0 < szI m b0 b1 b2 b3) :
    (szI m b0 b1 b2 b3 = 1 ∧ 1 ≤ m ∧ b0 ≤ 127) ∨ (szI m b0 b1 b2 b3 = 2 ∧ 2 ≤ m ∧ 194 ≤ b0 ∧ b0 ≤ 223 ∧ 128 ≤ b1 ∧ b1 ≤ 191) ∨
    (szI m b0 b1 b2 b3 = 3 ∧ 3 ≤ m ∧ (128 ≤ b2 ∧ b2 ≤ 191) ∧ ((b0 = 224 ∧ 160 ≤ b1 ∧ b1 ≤ 191) ∨ (225 ≤ b0 ∧ b0 ≤ 236 ∧ 128 ≤ b1 ∧ b1 ≤ 191) ∨ (b0 = 237 ∧ 128 ≤ b1 ∧ b1 ≤ 159) ∨ (238 ≤ b0 ∧ b0 ≤ 239 ∧ 128 ≤ b1 ∧ b1 ≤ 191))) ∨
    (szI m b0 b1 b2 b3 = 4 ∧ 4 ≤ m ∧ (128 ≤ b2 ∧ b2 ≤ 191) ∧ (128 ≤ b3 ∧ b3 ≤ 191) ∧ ((b0 = 240 ∧ 144 ≤ b1 ∧ b1 ≤ 191) ∨ (241 ≤ b0 ∧ b0 ≤ 243 ∧ 128 ≤ b1 ∧ b1 ≤ 191) ∨ (b0 = 244 ∧ 128 ≤ b1 ∧ b1 ≤ 143))) := by
  rcases Classical.em (∃ k, k < 9 ∧ tLo k ≤ b0 ∧ b0 ≤ tHi k) with ⟨k, hk, g1, g2⟩ | hno
  · have e := row_hit (m := m) (b1 := b1) (b2 := b2) (b3 := b3) hk g1 g2
    rw [e] at h ⊢
    obtain ⟨w0, w1, w2, w3, w4⟩ := wi_pos h
    rw [w0]
    clear e w0 h
    have : k = 0 ∨ k = 1 ∨ k = 2 ∨ k = 3 ∨ k = 4 ∨ k = 5 ∨ k = 6 ∨ k = 7 ∨ k = 8 := by omega
    rcases this with rfl | rfl | rfl | rfl | rfl | rfl | rfl | rfl | rfl <;> simp only [tLo, tHi, tA, tZ, tN, List.getD_cons_succ, List.getD_cons_zero] at *
    · exact Or.inl ⟨by first | rfl | trivial, w1, g2⟩
    · exact Or.inr (Or.inl ⟨by first | rfl | trivial, w1, g1, g2, w2 (by omega)⟩)
    · exact Or.inr (Or.inr (Or.inl ⟨by first | rfl | trivial, w1, w3 (by omega), Or.inl ⟨by omega, w2 (by omega)⟩⟩))
    · exact Or.inr (Or.inr (Or.inl ⟨by first | rfl | trivial, w1, w3 (by omega), Or.inr (Or.inl ⟨g1, g2, w2 (by omega)⟩)⟩))
    · exact Or.inr (Or.inr (Or.inl ⟨by first | rfl | trivial, w1, w3 (by omega), Or.inr (Or.inr (Or.inl ⟨by omega, w2 (by omega)⟩))⟩))
    · exact Or.inr (Or.inr (Or.inl ⟨by first | rfl | trivial, w1, w3 (by omega), Or.inr (Or.inr (Or.inr ⟨g1, g2, w2 (by omega)⟩))⟩))
    · exact Or.inr (Or.inr (Or.inr ⟨by first | rfl | trivial, w1, w3 (by omega), w4 (by omega), Or.inl ⟨by omega, w2 (by omega)⟩⟩))
    · exact Or.inr (Or.inr (Or.inr ⟨by first | rfl | trivial, w1, w3 (by omega), w4 (by omega), Or.inr (Or.inl ⟨g1, g2, w2 (by omega)⟩)⟩))
    · exact Or.inr (Or.inr (Or.inr ⟨by first | rfl | trivial, w1, w3 (by omega), w4 (by omega), Or.inr (Or.inr ⟨by omega, w2 (by omega)⟩)⟩))
  · rw [row_miss h0 (fun k hk hh => hno ⟨k, hk, hh⟩)] at h
    exact absurd h (by omega)

theorem szI_nonneg (m b0 b1 b2 b3 : Int) : 0 ≤ szI m b0 b1 b2 b3 ∧ szI m b0 b1 b2 b3 ≤ 4 := by
  generalize hR : szI m b0 b1 b2 b3 = R at *
  unfold szI at hR
  repeat' split at hR
  all_goals first | omega | (subst hR; have := wi_range m b1 b2 b3 0 0 1 (by omega); omega) | (subst hR; have := wi_range m b1 b2 b3 128 191 2 (by omega); omega) | (subst hR; have := wi_range m b1 b2 b3 160 191 3 (by omega); omega) | (subst hR; have := wi_range m b1 b2 b3 128 191 3 (by omega); omega) | (subst hR; have := wi_range m b1 b2 b3 128 159 3 (by omega); omega) | (subst hR; have := wi_range m b1 b2 b3 144 191 4 (by omega); omega) | (subst hR; have := wi_range m b1 b2 b3 128 191 4 (by omega); omega) | (subst hR; have := wi_range m b1 b2 b3 128 143 4 (by omega); omega)

theorem szI_one {m b0 b1 b2 b3 : Int} (hm : 1 ≤ m) (h0 : b0 ≤ 127) : szI m b0 b1 b2 b3 = 1 := by
  unfold szI wi
  rw [if_pos h0, if_neg (by omega), if_neg (by omega), if_neg (by omega), if_neg (by omega)]
theorem szI_two {m b0 b1 b2 b3 : Int} (hm : 2 ≤ m) (h0 : 194 ≤ b0) (h1 : b0 ≤ 223) (h2 : 128 ≤ b1) (h3 : b1 ≤ 191) : szI m b0 b1 b2 b3 = 2 := by
  unfold szI
  repeat' split
  all_goals first | (exfalso; omega) | exact wi_all (by omega) (by omega) (by omega) (by omega)
theorem szI_three {m b0 b1 b2 b3 : Int} (hm : 3 ≤ m) (h2 : 128 ≤ b2 ∧ b2 ≤ 191) (h : (b0 = 224 ∧ 160 ≤ b1 ∧ b1 ≤ 191) ∨ (225 ≤ b0 ∧ b0 ≤ 236 ∧ 128 ≤ b1 ∧ b1 ≤ 191) ∨ (b0 = 237 ∧ 128 ≤ b1 ∧ b1 ≤ 159) ∨ (238 ≤ b0 ∧ b0 ≤ 239 ∧ 128 ≤ b1 ∧ b1 ≤ 191)) : szI m b0 b1 b2 b3 = 3 := by
  unfold szI
  repeat' split
  all_goals first | (exfalso; omega) | exact wi_all (by omega) (by omega) (by omega) (by omega)
theorem szI_four {m b0 b1 b2 b3 : Int} (hm : 4 ≤ m) (h2 : 128 ≤ b2 ∧ b2 ≤ 191) (h3 : 128 ≤ b3 ∧ b3 ≤ 191) (h : (b0 = 240 ∧ 144 ≤ b1 ∧ b1 ≤ 191) ∨ (241 ≤ b0 ∧ b0 ≤ 243 ∧ 128 ≤ b1 ∧ b1 ≤ 191) ∨ (b0 = 244 ∧ 128 ≤ b1 ∧ b1 ≤ 143)) : szI m b0 b1 b2 b3 = 4 := by
  unfold szI
  repeat' split
  all_goals first | (exfalso; omega) | exact wi_all (by omega) (by omega) (by omega) (by omega)
theorem szI_cont {m b0 b1 b2 b3 : Int} (h0 : 128 ≤ b0) (h1 : b0 < 194) : szI m b0 b1 b2 b3 = 0 := by
  unfold szI
  rw [if_neg (by omega), if_pos h1]

theorem sz1_nonneg (l : List UInt8) : 0 ≤ sz1 l ∧ sz1 l ≤ 4 := by
  unfold sz1
  split
  · omega
  · exact szI_nonneg _ _ _ _ _

theorem byte_of (x : Int) (h0 : 0 ≤ x) (h1 : x < 256) : ((x.toNat.toUInt8).toNat : Int) = x := by
  have : (x.toNat.toUInt8).toNat = x.toNat % 256 := by simp
  rw [this]; omega
theorem byte_eq (x : Int) (b : UInt8) (h : x = (b.toNat : Int)) : x.toNat.toUInt8 = b := by
  apply UInt8.toNat_inj.1
  have hb := b.toNat_lt
  have := byte_of x (by omega) (by omega)
  omega

/-- The number of the code point that begins the list. -/
def dec1 (l : List UInt8) : Int :=
  if sz1 l = 1 then bl l 0 else if sz1 l = 2 then bl l 0 % 32 * 64 + bl l 1 % 64
  else if sz1 l = 3 then bl l 0 % 16 * 4096 + bl l 1 % 64 * 64 + bl l 2 % 64 else if sz1 l = 4 then bl l 0 % 8 * 262144 + bl l 1 % 64 * 4096 + bl l 2 % 64 * 64 + bl l 3 % 64 else 65533

theorem sz1_enc (c : Int) (h : scalar c) (t : List UInt8) : sz1 (enc c ++ t) = ((enc c).length : Int) ∧ dec1 (enc c ++ t) = c := by
  unfold scalar at h
  by_cases h1 : c ≤ 127
  · have e : enc c = [c.toNat.toUInt8] := by unfold enc Lib.encodeRune; rw [Lib.encodeRuneZ_one (by omega) h1]; rfl
    have hs : sz1 (enc c ++ t) = 1 := by
      rw [e]; unfold sz1
      rw [if_neg (by simp)]
      refine szI_one (by simp; omega) ?_
      show (((c.toNat.toUInt8).toNat : Nat) : Int) ≤ 127
      rw [byte_of c (by omega) (by omega)]; exact h1
    refine ⟨by rw [hs, e]; rfl, ?_⟩
    unfold dec1
    rw [if_pos hs, e]
    exact byte_of c (by omega) (by omega)
  · by_cases h2 : c ≤ 2047
    · have e : enc c = [(192 + c / 64).toNat.toUInt8, (128 + c % 64).toNat.toUInt8] := by unfold enc Lib.encodeRune; rw [Lib.encodeRuneZ_two (by omega) h2]; rfl
      have g0 : bl (enc c ++ t) 0 = 192 + c / 64 := by rw [e]; exact byte_of _ (by omega) (by omega)
      have g1 : bl (enc c ++ t) 1 = 128 + c % 64 := by rw [e]; exact byte_of _ (by omega) (by omega)
      have hs : sz1 (enc c ++ t) = 2 := by
        unfold sz1
        rw [if_neg (by rw [e]; simp), g0, g1]
        exact szI_two (by rw [e]; simp; omega) (by omega) (by omega) (by omega) (by omega)
      refine ⟨by rw [hs, e]; rfl, ?_⟩
      unfold dec1
      rw [hs, g0, g1, if_neg (by omega), if_pos rfl]
      omega
    · by_cases h3 : c ≤ 65535
      · have e : enc c = [(224 + c / 4096).toNat.toUInt8, (128 + c / 64 % 64).toNat.toUInt8, (128 + c % 64).toNat.toUInt8] := by unfold enc Lib.encodeRune; rw [Lib.encodeRuneZ_three (by omega)]; rfl
        have g0 : bl (enc c ++ t) 0 = 224 + c / 4096 := by rw [e]; exact byte_of _ (by omega) (by omega)
        have g1 : bl (enc c ++ t) 1 = 128 + c / 64 % 64 := by rw [e]; exact byte_of _ (by omega) (by omega)
        have g2 : bl (enc c ++ t) 2 = 128 + c % 64 := by rw [e]; exact byte_of _ (by omega) (by omega)
        have hs : sz1 (enc c ++ t) = 3 := by
          unfold sz1
          rw [if_neg (by rw [e]; simp), g0, g1, g2]
          exact szI_three (by rw [e]; simp; omega) (by omega) (by omega)
        refine ⟨by rw [hs, e]; rfl, ?_⟩
        unfold dec1
        rw [hs, g0, g1, g2, if_neg (by omega), if_neg (by omega), if_pos rfl]
        omega
      · have e : enc c = [(240 + c / 262144).toNat.toUInt8, (128 + c / 4096 % 64).toNat.toUInt8, (128 + c / 64 % 64).toNat.toUInt8, (128 + c % 64).toNat.toUInt8] := by unfold enc Lib.encodeRune; rw [Lib.encodeRuneZ_four (by omega) (by omega)]; rfl
        have g0 : bl (enc c ++ t) 0 = 240 + c / 262144 := by rw [e]; exact byte_of _ (by omega) (by omega)
        have g1 : bl (enc c ++ t) 1 = 128 + c / 4096 % 64 := by rw [e]; exact byte_of _ (by omega) (by omega)
        have g2 : bl (enc c ++ t) 2 = 128 + c / 64 % 64 := by rw [e]; exact byte_of _ (by omega) (by omega)
        have g3 : bl (enc c ++ t) 3 = 128 + c % 64 := by rw [e]; exact byte_of _ (by omega) (by omega)
        have hs : sz1 (enc c ++ t) = 4 := by
          unfold sz1
          rw [if_neg (by rw [e]; simp), g0, g1, g2, g3]
          exact szI_four (by rw [e]; simp; omega) (by omega) (by omega) (by omega)
        refine ⟨by rw [hs, e]; rfl, ?_⟩
        unfold dec1
        rw [hs, g0, g1, g2, g3, if_neg (by omega), if_neg (by omega), if_neg (by omega), if_pos rfl]
        omega

theorem sz1_pos (l : List UInt8) (h : 0 < sz1 l) : scalar (dec1 l) ∧ ∃ t, l = enc (dec1 l) ++ t := by
  have hne : l ≠ [] := by intro e; subst e; simp [sz1] at h
  have hz : sz1 l = szI l.length (bl l 0) (bl l 1) (bl l 2) (bl l 3) := by unfold sz1; rw [if_neg hne]
  rw [hz] at h
  have r0 := bl_range l 0; have r1 := bl_range l 1; have r2 := bl_range l 2; have r3 := bl_range l 3
  rcases szI_cases r0.1 h with ⟨e, hm, g⟩ | ⟨e, hm, g1, g2, g3, g4⟩ | ⟨e, hm, g2, g⟩ | ⟨e, hm, g2, g3, g⟩
  · match l, hm with
    | x :: t, _ =>
      have hd : dec1 (x :: t) = bl (x :: t) 0 := by unfold dec1; rw [hz, e, if_pos rfl]
      rw [hd]
      refine ⟨by unfold scalar; omega, t, ?_⟩
      unfold enc Lib.encodeRune
      rw [Lib.encodeRuneZ_one (by omega) g]
      simp only [List.map_cons, List.map_nil, List.cons_append, List.nil_append]
      rw [byte_eq (bl (x :: t) 0) x rfl]
  · match l, hm with
    | [x], hm => exact absurd hm (by simp)
    | x :: y :: t, _ =>
      have hd : dec1 (x :: y :: t) = bl (x :: y :: t) 0 % 32 * 64 + bl (x :: y :: t) 1 % 64 := by unfold dec1; rw [hz, e, if_neg (by omega), if_pos rfl]
      rw [hd]
      have q0 : bl (x :: y :: t) 0 = (x.toNat : Int) := rfl
      have q1 : bl (x :: y :: t) 1 = (y.toNat : Int) := rfl
      generalize bl (x :: y :: t) 0 = b0 at *
      generalize bl (x :: y :: t) 1 = b1 at *
      refine ⟨by unfold scalar; omega, t, ?_⟩
      unfold enc Lib.encodeRune
      rw [Lib.encodeRuneZ_two (by omega) (by omega)]
      simp only [List.map_cons, List.map_nil, List.cons_append, List.nil_append]
      rw [byte_eq _ x (by omega), byte_eq _ y (by omega)]
  · match l, hm with
    | [x], hm => exact absurd hm (by simp)
    | [x, y], hm => exact absurd hm (by simp)
    | x :: y :: z :: t, _ =>
      have hd : dec1 (x :: y :: z :: t) = bl (x :: y :: z :: t) 0 % 16 * 4096 + bl (x :: y :: z :: t) 1 % 64 * 64 + bl (x :: y :: z :: t) 2 % 64 := by unfold dec1; rw [hz, e, if_neg (by omega), if_neg (by omega), if_pos rfl]
      rw [hd]
      have q0 : bl (x :: y :: z :: t) 0 = (x.toNat : Int) := rfl
      have q1 : bl (x :: y :: z :: t) 1 = (y.toNat : Int) := rfl
      have q2 : bl (x :: y :: z :: t) 2 = (z.toNat : Int) := rfl
      generalize bl (x :: y :: z :: t) 0 = b0 at *
      generalize bl (x :: y :: z :: t) 1 = b1 at *
      generalize bl (x :: y :: z :: t) 2 = b2 at *
      refine ⟨by unfold scalar; omega, t, ?_⟩
      unfold enc Lib.encodeRune
      rw [Lib.encodeRuneZ_three (by omega)]
      simp only [List.map_cons, List.map_nil, List.cons_append, List.nil_append]
      rw [byte_eq _ x (by omega), byte_eq _ y (by omega), byte_eq _ z (by omega)]
  · match l, hm with
    | [x], hm => exact absurd hm (by simp)
    | [x, y], hm => exact absurd hm (by simp)
    | [x, y, z], hm => exact absurd hm (by simp)
    | x :: y :: z :: u :: t, _ =>
      have hd : dec1 (x :: y :: z :: u :: t) = bl (x :: y :: z :: u :: t) 0 % 8 * 262144 + bl (x :: y :: z :: u :: t) 1 % 64 * 4096 + bl (x :: y :: z :: u :: t) 2 % 64 * 64 + bl (x :: y :: z :: u :: t) 3 % 64 := by unfold dec1; rw [hz, e, if_neg (by omega), if_neg (by omega), if_neg (by omega), if_pos rfl]
      rw [hd]
      have q0 : bl (x :: y :: z :: u :: t) 0 = (x.toNat : Int) := rfl
      have q1 : bl (x :: y :: z :: u :: t) 1 = (y.toNat : Int) := rfl
      have q2 : bl (x :: y :: z :: u :: t) 2 = (z.toNat : Int) := rfl
      have q3 : bl (x :: y :: z :: u :: t) 3 = (u.toNat : Int) := rfl
      generalize bl (x :: y :: z :: u :: t) 0 = b0 at *
      generalize bl (x :: y :: z :: u :: t) 1 = b1 at *
      generalize bl (x :: y :: z :: u :: t) 2 = b2 at *
      generalize bl (x :: y :: z :: u :: t) 3 = b3 at *
      refine ⟨by unfold scalar; omega, t, ?_⟩
      unfold enc Lib.encodeRune
      rw [Lib.encodeRuneZ_four (by omega) (by omega)]
      simp only [List.map_cons, List.map_nil, List.cons_append, List.nil_append]
      rw [byte_eq _ x (by omega), byte_eq _ y (by omega), byte_eq _ z (by omega), byte_eq _ u (by omega)]

theorem enc_length (c : Int) : 1 ≤ (enc c).length ∧ (enc c).length ≤ 4 := by
  have := Lib.encodeRuneZ_length c
  simpa [enc, Lib.encodeRune] using this

/-- szN, by the list. -/
theorem szN_eq (s : ByteArray) (i : Nat) : szN s i = sz1 (s.data.toList.drop i) := by
  have hb : ∀ j, byt s (i + j) = bl (s.data.toList.drop i) j := by
    intro j
    by_cases h : i + j < s.size
    · rw [byt_of s _ h]
      unfold bl
      have : (s.data.toList.drop i).getD j 0 = s[i + j] := by
        simp [List.getD_eq_getElem?_getD, List.getElem?_drop]
        rw [Array.getElem?_eq_getElem (by simpa using h)]
        rfl
      rw [this]
    · unfold byt bl
      rw [get!_out s _ h, List.getD_eq_getElem?_getD, List.getElem?_eq_none (by simp; have : s.data.size = s.size := rfl; omega)]
      rfl
  unfold szN sz1
  have hl : (s.data.toList.drop i).length = s.size - i := by rw [List.length_drop]; rfl
  by_cases h : i < s.size
  · rw [if_pos h, if_neg (by intro e; rw [e] at hl; simp at hl; omega), hl, hb 1, hb 2, hb 3, ← hb 0]
    congr 1
    omega
  · rw [if_neg h, if_pos (List.eq_nil_of_length_eq_zero (by omega))]
end Go.Proofs.YtbpklbhaoemkkabDoor
