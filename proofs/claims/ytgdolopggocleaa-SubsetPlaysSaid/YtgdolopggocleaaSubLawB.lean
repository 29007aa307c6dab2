/- SubsetOrder, SubsetWith, walked. -/
import Derived.Test.YtgdolopggocleaaSubLawA
namespace Go.Proofs.Ytgdolopggocleaa
open Go.RowKit Go.Sort
set_option linter.unusedSimpArgs false
set_option linter.unusedVariables false

theorem put_get (L : List Int) (fr to : Nat) (c : Int) (h1 : fr ≤ to) (h2 : to ≤ L.length) (i : Nat) : (put L fr to c)[i]? = if fr ≤ i ∧ i < to then some c else L[i]? := by
  unfold put cut
  have e1 : ((L.take fr).drop 0).length = fr := by simp; omega
  rw [List.append_assoc]
  by_cases ha : i < fr
  · rw [List.getElem?_append_left (by omega), if_neg (by omega), List.drop_zero, List.getElem?_take, if_pos ha]
  · rw [List.getElem?_append_right (by omega), e1]
    by_cases hb : i < to
    · rw [List.getElem?_append_left (by simp; omega), if_pos (by omega), List.getElem?_replicate, if_pos (by omega)]
    · rw [List.getElem?_append_right (by simp; omega), if_neg (by omega), List.getElem?_drop, List.take_length, List.length_replicate]
      congr 1
      omega
theorem put_comm (L : List Int) (p q r : Nat) (x y : Int) (h1 : p ≤ q) (h2 : q ≤ r) (h3 : r ≤ L.length) : put (put L p q x) q r y = put (put L q r y) p q x := by
  apply List.ext_getElem?
  intro i
  have l1 := put_length L p q x h1 (by omega)
  have l2 := put_length L q r y h2 h3
  rw [put_get _ q r y h2 (by omega), put_get _ p q x h1 (by omega), put_get _ p q x h1 (by omega), put_get _ q r y h2 (by omega)]
  by_cases ha : q ≤ i ∧ i < r
  · rw [if_pos ha, if_neg (by omega), if_pos ha]
  · rw [if_neg ha, if_neg ha]
theorem rle_put_len (L : List Int) (fr to : Nat) (c : Int) (h1 : fr ≤ to) (h2 : to ≤ L.length) (h3 : L.length ≤ 200) : (rle (put L fr to c)).length ≤ 200 :=
  Nat.le_trans (rle_len _) (by rw [put_length _ _ _ _ h1 h2]; exact h3)

set_option maxHeartbeats 4000000 in
set_option maxRecDepth 100000 in
theorem order_any (n a b c x y : Int) (hn : 0 ≤ n ∧ n ≤ 255) (ha : 0 ≤ a ∧ a ≤ 255) (hb : 0 ≤ b ∧ b ≤ 255) (hc : 0 ≤ c ∧ c ≤ 255) (hx : 0 ≤ x ∧ x ≤ 255) (hy : 0 ≤ y ∧ y ≤ 255) (w : World) :
    Calls Try.prog 6 #[.int .u8 n, .int .u8 a, .int .u8 b, .int .u8 c, .int .u8 x, .int .u8 y] w fun e w' => e = .returned (.bool true) ∧ Below w.heap.size w w' := by
  obtain ⟨k, hk, hk3⟩ : ∃ k : Nat, n % 60 = (k : Int) ∧ k < 60 := ⟨(n % 60).toNat, by omega, by omega⟩
  obtain ⟨p, hp, hp3⟩ : ∃ p : Nat, a % ((k : Int) + 3) = (p : Int) ∧ p < k + 3 := ⟨(a % ((k : Int) + 3)).toNat, by have := Int.emod_nonneg a (show ((k : Int) + 3) ≠ 0 by omega); omega, by have := Int.emod_lt_of_pos a (show (0 : Int) < (k : Int) + 3 by omega); omega⟩
  obtain ⟨q, hq, hq3⟩ : ∃ q : Nat, b % ((k : Int) + 3 - (p : Int)) = (q : Int) ∧ p + q < k + 3 := ⟨(b % ((k : Int) + 3 - p)).toNat, by have := Int.emod_nonneg b (show ((k : Int) + 3 - p) ≠ 0 by omega); omega, by have := Int.emod_lt_of_pos b (show (0 : Int) < (k : Int) + 3 - p by omega); omega⟩
  obtain ⟨r, hr, hr3⟩ : ∃ r : Nat, c % ((k : Int) + 3 - ((p : Int) + (q : Int)) + 1) = (r : Int) ∧ p + q + r ≤ k + 3 := ⟨(c % ((k : Int) + 3 - (p + q) + 1)).toNat, by have := Int.emod_nonneg c (show ((k : Int) + 3 - (p + q) + 1) ≠ 0 by omega); omega, by have := Int.emod_lt_of_pos c (show (0 : Int) < (k : Int) + 3 - (p + q) + 1 by omega); omega⟩
  obtain ⟨X, hX, hX3⟩ : ∃ X : Nat, x % 101 = (X : Int) ∧ X ≤ 100 := ⟨(x % 101).toNat, by omega, by omega⟩
  obtain ⟨Y, hY, hY3⟩ : ∃ Y : Nat, y % 101 = (Y : Int) ∧ Y ≤ 100 := ⟨(y % 101).toNat, by omega, by omega⟩
  have HK := Hid.mk7 (known7_any w)
  have HN : Hid (∀ W, Calls Try.prog 19 #[.int .i64 ((k : Int) + 3)] W fun e w' => ∃ s, e = .returned s ∧ Sub w' s (List.replicate (k + 3) 0) ∧ Below W.heap.size W w') := fun W => new_any ((k : Int) + 3) W (k + 3) (by simp) (by omega)
  have HW1 : Hid (∀ (L : List Int) W s, L.length = k + 3 → Sub W s L → Calls Try.prog 13 #[s, .int .i64 (p : Nat), .int .i64 ((p : Int) + (q : Int)), .int .i64 (X : Nat)] W fun e w' => ∃ t, e = .returned (.tuple #[t, .int .i64 0]) ∧ Sub w' t (put L p (p + q) X) ∧ Below W.heap.size W w') := fun L W s hl h => by
    have := with_ok p (p + q) X h (by omega) (by omega) (by omega) (by omega) (by omega) (rle_put_len _ _ _ _ (by omega) (by omega) (by omega))
    rw [Int.natCast_add] at this
    exact this
  have HW2 : Hid (∀ (L : List Int) W s, L.length = k + 3 → Sub W s L → Calls Try.prog 13 #[s, .int .i64 ((p : Int) + (q : Int)), .int .i64 ((p : Int) + (q : Int) + (r : Int)), .int .i64 (Y : Nat)] W fun e w' => ∃ t, e = .returned (.tuple #[t, .int .i64 0]) ∧ Sub w' t (put L (p + q) (p + q + r) Y) ∧ Below W.heap.size W w') := fun L W s hl h => by
    have := with_ok (p + q) (p + q + r) Y h (by omega) (by omega) (by omega) (by omega) (by omega) (rle_put_len _ _ _ _ (by omega) (by omega) (by omega))
    rw [Int.natCast_add (p + q) r, Int.natCast_add] at this
    exact this
  have L0 : (List.replicate (k + 3) (0 : Int)).length = k + 3 := by simp
  have HE : Hid (put (put (List.replicate (k + 3) 0) p (p + q) X) (p + q) (p + q + r) Y = put (put (List.replicate (k + 3) 0) (p + q) (p + q + r) Y) p (p + q) X) := put_comm _ p (p + q) (p + q + r) X Y (by omega) (by omega) (by simp; omega)
  have L1 := Hid.mk7 (put_length (List.replicate (k + 3) (0 : Int)) p (p + q) X (by omega) (by simp; omega))
  have L2 := Hid.mk7 (put_length (List.replicate (k + 3) (0 : Int)) (p + q) (p + q + r) Y (by omega) (by simp; omega))
  rw [L0] at L1 L2
  have L3 := Hid.mk7 ((put_length (put (List.replicate (k + 3) (0 : Int)) p (p + q) X) (p + q) (p + q + r) Y (by omega) (by rw [L1.out]; omega)).trans L1.out)
  have LL := Hid.mk7 L0
  have HEM : Hid (∀ W s, Sub W s (List.replicate (k + 3) 0) → Calls Try.prog 21 #[s] W fun e w' => e = .returned (.bool true) ∧ Below W.heap.size W w') := fun W s h => by
    have := empty_any7 h (by simp; omega)
    rw [szc_zeros] at this
    exact this
  have HLN : Hid (∀ (L : List Int) W s, L.length = k + 3 → Sub W s L → Calls Try.prog 18 #[s] W fun e w' => e = .returned (.int .i64 ((k : Int) + 3)) ∧ Below W.heap.size W w') := fun L W s hl h => by
    have := len_any7 h (by omega)
    rw [hl, show ((k + 3 : Nat) : Int) = (k : Int) + 3 from by simp] at this
    exact this
  have HSM : Hid (∀ (L : List Int) W s t, L.length = k + 3 → Sub W s L → Sub W t L → Calls Try.prog 15 #[s, t] W fun e w' => e = .returned (.bool true) ∧ Below W.heap.size W w') := fun L W s t hl h h' => by
    have := same_any7 h h' (by omega) (by omega)
    rw [decide_eq_true (rfl : L = L)] at this
    exact this
  rw [HE.out] at L3
  generalize hZ : List.replicate (k + 3) (0 : Int) = Z at *
  generalize hA1 : put Z p (p + q) X = A1 at *
  generalize hA2 : put Z (p + q) (p + q + r) Y = A2 at *
  have HZ1 := Hid.mk7 hA1
  have HZ2 := Hid.mk7 hA2
  generalize hA3 : put A2 p (p + q) X = A3 at *
  have HZ3 := Hid.mk7 hA3
  clear hA1 hA2 hA3 hZ L0
  go_enter Try.func6, Try.ntmps6
  go_wp2_with fail
  refine HK.out.mono ?_
  rintro e w1 ⟨rfl, b1⟩
  go_wp2_with fail
  refine (HN.out _).mono ?_
  rintro e w2 ⟨s, rfl, hs, b2⟩
  have S2 := Hid.mk7 hs
  have g2 := b1.trans (b2.mono b1.size)
  clear hs b1 b2 HK HN
  go_wp2_with fail
  refine (HW1.out Z _ s LL.out S2.out).mono ?_
  rintro e w3 ⟨u, rfl, hu, b3⟩
  rw [HZ1.out] at hu
  have S3 := Hid.mk7 (S2.out.later b3)
  have U3 := Hid.mk7 hu
  have g3 := g2.trans (b3.mono g2.size)
  clear S2 g2 b3 hu
  go_wp2_with fail
  refine (HW2.out A1 _ u L1.out U3.out).mono ?_
  rintro e w4 ⟨v, rfl, hv, b4⟩
  rw [HE.out] at hv
  have S4 := Hid.mk7 (S3.out.later b4)
  have V4 := Hid.mk7 hv
  have g4 := g3.trans (b4.mono g3.size)
  clear S3 g3 b4 hv U3
  go_wp2_with fail
  refine (HW2.out Z _ s LL.out S4.out).mono ?_
  rintro e w5 ⟨t, rfl, ht, b5⟩
  rw [HZ2.out] at ht
  have S5 := Hid.mk7 (S4.out.later b5)
  have V5 := Hid.mk7 (V4.out.later b5)
  have T5 := Hid.mk7 ht
  have g5 := g4.trans (b5.mono g4.size)
  clear S4 V4 g4 b5 ht
  go_wp2_with fail
  refine (HW1.out A2 _ t L2.out T5.out).mono ?_
  rintro e w6 ⟨z, rfl, hz, b6⟩
  rw [HZ3.out] at hz
  have S6 := Hid.mk7 (S5.out.later b6)
  have V6 := Hid.mk7 (V5.out.later b6)
  have Z6 := Hid.mk7 hz
  have g6 := g5.trans (b6.mono g5.size)
  clear S5 V5 g5 b6 hz T5
  go_wp2_with fail
  refine (HSM.out A3 _ v z L3.out V6.out Z6.out).mono ?_
  rintro e w7 ⟨rfl, b7⟩
  have S7 := Hid.mk7 (S6.out.later b7)
  have V7 := Hid.mk7 (V6.out.later b7)
  have g7 := g6.trans (b7.mono g6.size)
  clear S6 V6 g6 b7 Z6
  go_wp2_with fail
  refine (HEM.out _ s S7.out).mono ?_
  rintro e w8 ⟨rfl, b8⟩
  have V8 := Hid.mk7 (V7.out.later b8)
  have g8 := g7.trans (b8.mono g7.size)
  clear S7 V7 g7 b8
  go_wp2_with fail
  refine (HLN.out A3 _ v L3.out V8.out).mono ?_
  rintro e w9 ⟨rfl, b9⟩
  have g9 := g8.trans (b9.mono g8.size)
  clear V8 g8 b9
  go_wp2
  go_ret
  exact ⟨rfl, g9⟩

theorem put_all (k : Nat) (c : Int) : put (List.replicate k 0) 0 k c = List.replicate k c := by simp [put, cut]
theorem put_back (k x y : Nat) (c d : Int) (h1 : x ≤ y) (h2 : y ≤ k) : put (put (List.replicate k c) x y d) x y c = List.replicate k c := by
  apply List.ext_getElem?
  intro i
  have l1 := put_length (List.replicate k c) x y d h1 (by simp; omega)
  rw [List.length_replicate] at l1
  rw [put_get _ x y c h1 (by omega), put_get _ x y d h1 (by simp; omega)]
  by_cases ha : x ≤ i ∧ i < y
  · rw [if_pos ha, List.getElem?_replicate, if_pos (by omega)]
  · rw [if_neg ha, if_neg ha]
theorem put_same_iff (k x y : Nat) (c d : Int) (h1 : x ≤ y) (h2 : y ≤ k) : put (List.replicate k c) x y d = List.replicate k c ↔ (x = y ∨ c = d) := by
  constructor
  · intro h
    by_cases e : x = y
    · exact Or.inl e
    · right
      have := congrArg (fun l : List Int => l[x]?) h
      rw [put_get _ x y d h1 (by simp; omega), if_pos (by omega), List.getElem?_replicate, if_pos (by omega)] at this
      exact (Option.some.inj this).symm
  · intro h
    apply List.ext_getElem?
    intro i
    rw [put_get _ x y d h1 (by simp; omega)]
    rcases h with rfl | rfl
    · rw [if_neg (by omega)]
    · by_cases ha : x ≤ i ∧ i < y
      · rw [if_pos ha, List.getElem?_replicate, if_pos (by omega)]
      · rw [if_neg ha]
theorem put_cnt (k x y : Nat) (c d : Int) (h1 : x ≤ y) (h2 : y ≤ k) (i : Nat) (hi : i < k) : cnt (put (List.replicate k c) x y d) (i : Int) = if x ≤ i ∧ i < y then d else c := by
  unfold cnt
  rw [if_neg (by omega), Int.toNat_natCast, put_get _ x y d h1 (by simp; omega)]
  by_cases ha : x ≤ i ∧ i < y
  · rw [if_pos ha, if_pos ha]; rfl
  · rw [if_neg ha, if_neg ha, List.getElem?_replicate, if_pos hi]; rfl

set_option maxHeartbeats 4000000 in
set_option maxRecDepth 100000 in
theorem with_core (n fr to a b : Int) (hn : 0 ≤ n ∧ n ≤ 255) (hfr : 0 ≤ fr ∧ fr ≤ 255) (hto : 0 ≤ to ∧ to ≤ 255) (ha : 0 ≤ a ∧ a ≤ 255) (hb : 0 ≤ b ∧ b ≤ 255) (k f t x y A B : Nat) (hk : n % 100 = (k : Int)) (hk3 : k < 100)
    (hf : fr % ((k : Int) + 1) = (f : Int)) (ht : to % ((k : Int) + 1) = (t : Int)) (hA : a % 101 = (A : Int)) (hA3 : A ≤ 100) (hB : b % 101 = (B : Int)) (hB3 : B ≤ 100)
    (hxy : x ≤ y) (hyk : y ≤ k) (h : (f < t ∧ x = f ∧ y = t) ∨ (t < f ∧ x = t ∧ y = f)) (w : World) :
    Calls Try.prog 5 #[.int .u8 n, .int .u8 fr, .int .u8 to, .int .u8 a, .int .u8 b] w fun e w' => e = .returned (.bool true) ∧ Below w.heap.size w w' := by
  have HK := Hid.mk7 (known7_any w)
  have HN : Hid (∀ W, Calls Try.prog 19 #[.int .i64 ((k : Int) + 1)] W fun e w' => ∃ s, e = .returned s ∧ Sub w' s (List.replicate (k + 1) 0) ∧ Below W.heap.size W w') := fun W => new_any ((k : Int) + 1) W (k + 1) (by simp) (by omega)
  have HW0 : Hid (∀ W s, Sub W s (List.replicate (k + 1) 0) → Calls Try.prog 13 #[s, .int .i64 0, .int .i64 ((k : Int) + 1), .int .i64 (A : Nat)] W fun e w' => ∃ t, e = .returned (.tuple #[t, .int .i64 0]) ∧ Sub w' t (List.replicate (k + 1) A) ∧ Below W.heap.size W w') := fun W s h => by
    have := with_ok 0 (k + 1) A h (by simp; omega) (by omega) (by simp) (by omega) (by omega) (rle_put_len _ _ _ _ (by omega) (by simp) (by simp; omega))
    rw [put_all] at this
    exact this
  have HW1 : Hid (∀ W s, Sub W s (List.replicate (k + 1) A) → Calls Try.prog 13 #[s, .int .i64 (x : Nat), .int .i64 (y : Nat), .int .i64 (B : Nat)] W fun e w' => ∃ t, e = .returned (.tuple #[t, .int .i64 0]) ∧ Sub w' t (put (List.replicate (k + 1) A) x y B) ∧ Below W.heap.size W w') := fun W s h =>
    with_ok x y B h (by simp; omega) (by omega) (by simp; omega) (by omega) (by omega) (rle_put_len _ _ _ _ (by omega) (by simp; omega) (by simp; omega))
  have hpl := put_length (List.replicate (k + 1) (A : Int)) x y B hxy (by simp; omega)
  rw [List.length_replicate] at hpl
  have HW2 : Hid (∀ W s, Sub W s (put (List.replicate (k + 1) A) x y B) → Calls Try.prog 13 #[s, .int .i64 (x : Nat), .int .i64 (y : Nat), .int .i64 (A : Nat)] W fun e w' => ∃ t, e = .returned (.tuple #[t, .int .i64 0]) ∧ Sub w' t (List.replicate (k + 1) A) ∧ Below W.heap.size W w') := fun W s h => by
    have := with_ok x y A h (by omega) (by omega) (by omega) (by omega) (by omega) (rle_put_len _ _ _ _ (by omega) (by omega) (by omega))
    rw [put_back (k + 1) x y A B hxy (by omega)] at this
    exact this
  have HSM : Hid (∀ W s t, Sub W s (List.replicate (k + 1) A) → Sub W t (List.replicate (k + 1) A) → Calls Try.prog 15 #[s, t] W fun e w' => e = .returned (.bool true) ∧ Below W.heap.size W w') := fun W s t h h' => by
    have := same_any7 h h' (by simp; omega) (by simp; omega)
    rw [decide_eq_true rfl] at this
    exact this
  have HSM2 : Hid (∀ W s t, Sub W s (put (List.replicate (k + 1) A) x y B) → Sub W t (List.replicate (k + 1) A) → Calls Try.prog 15 #[s, t] W fun e w' => e = .returned (.bool (decide (x = y ∨ (A : Int) = (B : Int)))) ∧ Below W.heap.size W w') := fun W s t h h' => by
    have := same_any7 h h' (by omega) (by simp; omega)
    rw [decide_eq_decide.2 (put_same_iff (k + 1) x y A B hxy (by omega))] at this
    exact this
  have HLN : Hid (∀ W s, Sub W s (put (List.replicate (k + 1) A) x y B) → Calls Try.prog 18 #[s] W fun e w' => e = .returned (.int .i64 ((k : Int) + 1)) ∧ Below W.heap.size W w') := fun W s h => by
    have := len_any7 h (by omega)
    rw [hpl, show ((k + 1 : Nat) : Int) = (k : Int) + 1 from by simp] at this
    exact this
  have HCT : Hid (∀ W s (i : Nat), i < k + 1 → Sub W s (put (List.replicate (k + 1) A) x y B) → Calls Try.prog 20 #[s, .int .i64 (i : Nat)] W fun e w' => e = .returned (.int .i64 (if x ≤ i ∧ i < y then (B : Int) else (A : Int))) ∧ Below W.heap.size W w') := fun W s i hi h => by
    have := count_any (i : Int) h (by omega) (by omega)
    rw [put_cnt (k + 1) x y A B hxy (by omega) i hi] at this
    exact this
  clear hpl
  generalize List.replicate (k + 1) (0 : Int) = Z0 at *
  generalize List.replicate (k + 1) (A : Int) = Z1 at *
  generalize put Z1 x y B = Z2 at *
  rcases h with ⟨h1, rfl, rfl⟩ | ⟨h1, rfl, rfl⟩
  all_goals
    go_enter Try.func5, Try.ntmps5
    go_wp2_with fail
    refine HK.out.mono ?_
    rintro e w1 ⟨rfl, b1⟩
    clear HK
    go_wp2
    go_quiet (fail)
    go_wp2_with fail
    refine (HN.out _).mono ?_
    rintro e w2 ⟨s, rfl, hs, b2⟩
    have S2 := Hid.mk7 hs
    have g2 := (below_drewN b1 nq).trans (b2.mono (below_drewN b1 nq).size)
    clear hs b1 b2 HN
    go_wp2_with fail
    refine (HW0.out _ s S2.out).mono ?_
    rintro e w3 ⟨t, rfl, ht', b3⟩
    have T3 := Hid.mk7 ht'
    have g3 := g2.trans (b3.mono g2.size)
    clear S2 g2 b3 ht' HW0
    go_wp2_with fail
    refine (HW1.out _ t T3.out).mono ?_
    rintro e w4 ⟨u, rfl, hu, b4⟩
    have T4 := Hid.mk7 (T3.out.later b4)
    have U4 := Hid.mk7 hu
    have g4 := g3.trans (b4.mono g3.size)
    clear T3 g3 b4 hu HW1
    go_wp2_with fail
    refine (HW2.out _ u U4.out).mono ?_
    rintro e w5 ⟨v, rfl, hv, b5⟩
    have T5 := Hid.mk7 (T4.out.later b5)
    have U5 := Hid.mk7 (U4.out.later b5)
    have V5 := Hid.mk7 hv
    have g5 := g4.trans (b5.mono g4.size)
    clear T4 U4 g4 b5 hv HW2
    go_wp2_with fail
    refine (HSM.out _ v t V5.out T5.out).mono ?_
    rintro e w6 ⟨rfl, b6⟩
    have T6 := Hid.mk7 (T5.out.later b6)
    have U6 := Hid.mk7 (U5.out.later b6)
    have g6 := g5.trans (b6.mono g5.size)
    clear T5 U5 g5 b6 V5 HSM
    go_wp2
    clear hf ht
    go_loopw [21] (fun iv wr => ∃ i : Nat, i ≤ k + 1 ∧ iv = .int .i64 (i : Nat) ∧ Hid (Sub wr t Z1) ∧ Hid (Sub wr u Z2) ∧ Below w.heap.size w wr) (fun iv _ => k + 1 - (intOf iv).toNat)
    case atStart => exact ⟨0, by omega, rfl, T6, U6, g6⟩
    case round =>
      clear T6 U6 g6
      obtain ⟨i, hi, rfl, T7, U7, g7⟩ := hrel
      by_cases hlt : i < k + 1
      · have HC := Hid.mk7 (HCT.out wr u i hlt U7.out)
        by_cases hin : x ≤ i ∧ i < y
        · rw [if_pos hin] at HC
          obtain ⟨i1, i2⟩ := hin
          go_wp2_with fail
          refine HC.out.mono ?_
          rintro e w8 ⟨rfl, b8⟩
          have T8 := Hid.mk7 (T7.out.later b8)
          have U8 := Hid.mk7 (U7.out.later b8)
          have g8 := g7.trans (b8.mono g7.size)
          clear T7 U7 g7 b8 HC
          go_wp2
          go_roundw
          case rel => exact ⟨i + 1, by omega, by go_num, T8, U8, g8⟩
          case measure => simp [intOf]; omega
        · rw [if_neg hin] at HC
          by_cases hix : x ≤ i
          · have dd : decide ((i : Int) < (y : Int)) = false := decide_eq_false (by omega)
            have dd2 : decide (i < y) = false := decide_eq_false (by omega)
            clear hin
            go_wp2_with fail
            refine HC.out.mono ?_
            rintro e w8 ⟨rfl, b8⟩
            have T8 := Hid.mk7 (T7.out.later b8)
            have U8 := Hid.mk7 (U7.out.later b8)
            have g8 := g7.trans (b8.mono g7.size)
            clear T7 U7 g7 b8 HC
            go_wp2
            go_roundw
            case rel => exact ⟨i + 1, by omega, by go_num, T8, U8, g8⟩
            case measure => simp [intOf]; omega
          · have dd : decide ((x : Int) ≤ (i : Int)) = false := decide_eq_false (by omega)
            have dd2 : decide (x ≤ i) = false := decide_eq_false (by omega)
            clear hin
            go_wp2_with fail
            refine HC.out.mono ?_
            rintro e w8 ⟨rfl, b8⟩
            have T8 := Hid.mk7 (T7.out.later b8)
            have U8 := Hid.mk7 (U7.out.later b8)
            have g8 := g7.trans (b8.mono g7.size)
            clear T7 U7 g7 b8 HC
            go_wp2
            go_roundw
            case rel => exact ⟨i + 1, by omega, by go_num, T8, U8, g8⟩
            case measure => simp [intOf]; omega
      · obtain rfl : i = k + 1 := by omega
        by_cases hAB : A = B
        · subst hAB
          have HS := HSM2
          rw [decide_eq_true (Or.inr rfl)] at HS
          have e1 : ((x : Int) == (y : Int)) = false := by simp; omega
          have e2 : (x == y) = false := by simp; omega
          go_wp2_with fail
          refine (HLN.out _ u U7.out).mono ?_
          rintro e w8 ⟨rfl, b8⟩
          have T8 := Hid.mk7 (T7.out.later b8)
          have U8 := Hid.mk7 (U7.out.later b8)
          have g8 := g7.trans (b8.mono g7.size)
          clear T7 U7 g7 b8
          go_wp2_with fail
          refine (HS.out _ u t U8.out T8.out).mono ?_
          rintro e w9 ⟨rfl, b9⟩
          have g9 := g8.trans (b9.mono g8.size)
          clear T8 U8 g8 b9
          go_wp2
          go_ret
          exact ⟨rfl, g9⟩
        · have HS := HSM2
          have hdd : decide (x = y ∨ (A : Int) = (B : Int)) = false := decide_eq_false (by omega)
          rw [hdd] at HS
          have e1 : ((x : Int) == (y : Int)) = false := by simp; omega
          have e2 : (x == y) = false := by simp; omega
          have e3 : ((A : Int) == (B : Int)) = false := by simp; omega
          have e4 : (A == B) = false := by simpa using hAB
          clear hdd
          go_wp2_with fail
          refine (HLN.out _ u U7.out).mono ?_
          rintro e w8 ⟨rfl, b8⟩
          have T8 := Hid.mk7 (T7.out.later b8)
          have U8 := Hid.mk7 (U7.out.later b8)
          have g8 := g7.trans (b8.mono g7.size)
          clear T7 U7 g7 b8
          go_wp2_with fail
          refine (HS.out _ u t U8.out T8.out).mono ?_
          rintro e w9 ⟨rfl, b9⟩
          have g9 := g8.trans (b9.mono g8.size)
          clear T8 U8 g8 b9
          go_wp2
          go_ret
          exact ⟨rfl, g9⟩

set_option maxHeartbeats 4000000 in
set_option maxRecDepth 100000 in
theorem with_core0 (n fr to a b : Int) (hn : 0 ≤ n ∧ n ≤ 255) (hfr : 0 ≤ fr ∧ fr ≤ 255) (hto : 0 ≤ to ∧ to ≤ 255) (ha : 0 ≤ a ∧ a ≤ 255) (hb : 0 ≤ b ∧ b ≤ 255) (k x A B : Nat) (hk : n % 100 = (k : Int)) (hk3 : k < 100)
    (hf : fr % ((k : Int) + 1) = (x : Int)) (ht : to % ((k : Int) + 1) = (x : Int)) (hA : a % 101 = (A : Int)) (hA3 : A ≤ 100) (hB : b % 101 = (B : Int)) (hB3 : B ≤ 100)
    (hyk : x ≤ k) (w : World) :
    Calls Try.prog 5 #[.int .u8 n, .int .u8 fr, .int .u8 to, .int .u8 a, .int .u8 b] w fun e w' => e = .returned (.bool true) ∧ Below w.heap.size w w' := by
  have HK := Hid.mk7 (known7_any w)
  have HN : Hid (∀ W, Calls Try.prog 19 #[.int .i64 ((k : Int) + 1)] W fun e w' => ∃ s, e = .returned s ∧ Sub w' s (List.replicate (k + 1) 0) ∧ Below W.heap.size W w') := fun W => new_any ((k : Int) + 1) W (k + 1) (by simp) (by omega)
  have HW0 : Hid (∀ W s, Sub W s (List.replicate (k + 1) 0) → Calls Try.prog 13 #[s, .int .i64 0, .int .i64 ((k : Int) + 1), .int .i64 (A : Nat)] W fun e w' => ∃ t, e = .returned (.tuple #[t, .int .i64 0]) ∧ Sub w' t (List.replicate (k + 1) A) ∧ Below W.heap.size W w') := fun W s h => by
    have := with_ok 0 (k + 1) A h (by simp; omega) (by omega) (by simp) (by omega) (by omega) (rle_put_len _ _ _ _ (by omega) (by simp) (by simp; omega))
    rw [put_all] at this
    exact this
  have HW1 : Hid (∀ W s, Sub W s (List.replicate (k + 1) A) → Calls Try.prog 13 #[s, .int .i64 (x : Nat), .int .i64 (x : Nat), .int .i64 (B : Nat)] W fun e w' => ∃ t, e = .returned (.tuple #[t, .int .i64 0]) ∧ Sub w' t (put (List.replicate (k + 1) A) x x B) ∧ Below W.heap.size W w') := fun W s h =>
    with_ok x x B h (by simp; omega) (by omega) (by simp; omega) (by omega) (by omega) (rle_put_len _ _ _ _ (by omega) (by simp; omega) (by simp; omega))
  have hpl := put_length (List.replicate (k + 1) (A : Int)) x x B (Nat.le_refl x) (by simp; omega)
  rw [List.length_replicate] at hpl
  have HW2 : Hid (∀ W s, Sub W s (put (List.replicate (k + 1) A) x x B) → Calls Try.prog 13 #[s, .int .i64 (x : Nat), .int .i64 (x : Nat), .int .i64 (A : Nat)] W fun e w' => ∃ t, e = .returned (.tuple #[t, .int .i64 0]) ∧ Sub w' t (List.replicate (k + 1) A) ∧ Below W.heap.size W w') := fun W s h => by
    have := with_ok x x A h (by omega) (by omega) (by omega) (by omega) (by omega) (rle_put_len _ _ _ _ (by omega) (by omega) (by omega))
    rw [put_back (k + 1) x x A B (Nat.le_refl x) (by omega)] at this
    exact this
  have HSM : Hid (∀ W s t, Sub W s (List.replicate (k + 1) A) → Sub W t (List.replicate (k + 1) A) → Calls Try.prog 15 #[s, t] W fun e w' => e = .returned (.bool true) ∧ Below W.heap.size W w') := fun W s t h h' => by
    have := same_any7 h h' (by simp; omega) (by simp; omega)
    rw [decide_eq_true rfl] at this
    exact this
  have HSM2 : Hid (∀ W s t, Sub W s (put (List.replicate (k + 1) A) x x B) → Sub W t (List.replicate (k + 1) A) → Calls Try.prog 15 #[s, t] W fun e w' => e = .returned (.bool true) ∧ Below W.heap.size W w') := fun W s t h h' => by
    have := same_any7 h h' (by omega) (by simp; omega)
    rw [decide_eq_decide.2 (put_same_iff (k + 1) x x A B (Nat.le_refl x) (by omega)), decide_eq_true (Or.inl rfl)] at this
    exact this
  have HLN : Hid (∀ W s, Sub W s (put (List.replicate (k + 1) A) x x B) → Calls Try.prog 18 #[s] W fun e w' => e = .returned (.int .i64 ((k : Int) + 1)) ∧ Below W.heap.size W w') := fun W s h => by
    have := len_any7 h (by omega)
    rw [hpl, show ((k + 1 : Nat) : Int) = (k : Int) + 1 from by simp] at this
    exact this
  have HCT : Hid (∀ W s (i : Nat), i < k + 1 → Sub W s (put (List.replicate (k + 1) A) x x B) → Calls Try.prog 20 #[s, .int .i64 (i : Nat)] W fun e w' => e = .returned (.int .i64 (if x ≤ i ∧ i < x then (B : Int) else (A : Int))) ∧ Below W.heap.size W w') := fun W s i hi h => by
    have := count_any (i : Int) h (by omega) (by omega)
    rw [put_cnt (k + 1) x x A B (Nat.le_refl x) (by omega) i hi] at this
    exact this
  clear hpl
  generalize List.replicate (k + 1) (0 : Int) = Z0 at *
  generalize List.replicate (k + 1) (A : Int) = Z1 at *
  generalize put Z1 x x B = Z2 at *
  all_goals
    go_enter Try.func5, Try.ntmps5
    go_wp2_with fail
    refine HK.out.mono ?_
    rintro e w1 ⟨rfl, b1⟩
    clear HK
    go_wp2
    go_quiet (fail)
    go_wp2_with fail
    refine (HN.out _).mono ?_
    rintro e w2 ⟨s, rfl, hs, b2⟩
    have S2 := Hid.mk7 hs
    have g2 := (below_drewN b1 nq).trans (b2.mono (below_drewN b1 nq).size)
    clear hs b1 b2 HN
    go_wp2_with fail
    refine (HW0.out _ s S2.out).mono ?_
    rintro e w3 ⟨t, rfl, ht', b3⟩
    have T3 := Hid.mk7 ht'
    have g3 := g2.trans (b3.mono g2.size)
    clear S2 g2 b3 ht' HW0
    go_wp2_with fail
    refine (HW1.out _ t T3.out).mono ?_
    rintro e w4 ⟨u, rfl, hu, b4⟩
    have T4 := Hid.mk7 (T3.out.later b4)
    have U4 := Hid.mk7 hu
    have g4 := g3.trans (b4.mono g3.size)
    clear T3 g3 b4 hu HW1
    go_wp2_with fail
    refine (HW2.out _ u U4.out).mono ?_
    rintro e w5 ⟨v, rfl, hv, b5⟩
    have T5 := Hid.mk7 (T4.out.later b5)
    have U5 := Hid.mk7 (U4.out.later b5)
    have V5 := Hid.mk7 hv
    have g5 := g4.trans (b5.mono g4.size)
    clear T4 U4 g4 b5 hv HW2
    go_wp2_with fail
    refine (HSM.out _ v t V5.out T5.out).mono ?_
    rintro e w6 ⟨rfl, b6⟩
    have T6 := Hid.mk7 (T5.out.later b6)
    have U6 := Hid.mk7 (U5.out.later b6)
    have g6 := g5.trans (b6.mono g5.size)
    clear T5 U5 g5 b6 V5 HSM
    go_wp2
    clear hf ht
    go_loopw [21] (fun iv wr => ∃ i : Nat, i ≤ k + 1 ∧ iv = .int .i64 (i : Nat) ∧ Hid (Sub wr t Z1) ∧ Hid (Sub wr u Z2) ∧ Below w.heap.size w wr) (fun iv _ => k + 1 - (intOf iv).toNat)
    case atStart => exact ⟨0, by omega, rfl, T6, U6, g6⟩
    case round =>
      clear T6 U6 g6
      obtain ⟨i, hi, rfl, T7, U7, g7⟩ := hrel
      by_cases hlt : i < k + 1
      · have HC := Hid.mk7 (HCT.out wr u i hlt U7.out)
        by_cases hin : x ≤ i ∧ i < x
        · exact absurd hin.2 (by omega)
        · rw [if_neg hin] at HC
          by_cases hix : x ≤ i
          · have dd : decide ((i : Int) < (x : Int)) = false := decide_eq_false (by omega)
            have dd2 : decide (i < x) = false := decide_eq_false (by omega)
            clear hin
            go_wp2_with fail
            refine HC.out.mono ?_
            rintro e w8 ⟨rfl, b8⟩
            have T8 := Hid.mk7 (T7.out.later b8)
            have U8 := Hid.mk7 (U7.out.later b8)
            have g8 := g7.trans (b8.mono g7.size)
            clear T7 U7 g7 b8 HC
            go_wp2
            go_roundw
            case rel => exact ⟨i + 1, by omega, by go_num, T8, U8, g8⟩
            case measure => simp [intOf]; omega
          · have dd : decide ((x : Int) ≤ (i : Int)) = false := decide_eq_false (by omega)
            have dd2 : decide (x ≤ i) = false := decide_eq_false (by omega)
            clear hin
            go_wp2_with fail
            refine HC.out.mono ?_
            rintro e w8 ⟨rfl, b8⟩
            have T8 := Hid.mk7 (T7.out.later b8)
            have U8 := Hid.mk7 (U7.out.later b8)
            have g8 := g7.trans (b8.mono g7.size)
            clear T7 U7 g7 b8 HC
            go_wp2
            go_roundw
            case rel => exact ⟨i + 1, by omega, by go_num, T8, U8, g8⟩
            case measure => simp [intOf]; omega
      · obtain rfl : i = k + 1 := by omega
        by_cases hAB : A = B
        · subst hAB
          have HS := HSM2
          have e1 : ((x : Int) == (x : Int)) = true := by simp
          have e2 : (x == x) = true := by simp
          go_wp2_with fail
          refine (HLN.out _ u U7.out).mono ?_
          rintro e w8 ⟨rfl, b8⟩
          have T8 := Hid.mk7 (T7.out.later b8)
          have U8 := Hid.mk7 (U7.out.later b8)
          have g8 := g7.trans (b8.mono g7.size)
          clear T7 U7 g7 b8
          go_wp2_with fail
          refine (HS.out _ u t U8.out T8.out).mono ?_
          rintro e w9 ⟨rfl, b9⟩
          have g9 := g8.trans (b9.mono g8.size)
          clear T8 U8 g8 b9
          go_wp2
          go_ret
          exact ⟨rfl, g9⟩
        · have HS := HSM2
          have e1 : ((x : Int) == (x : Int)) = true := by simp
          have e2 : (x == x) = true := by simp
          have e3 : ((A : Int) == (B : Int)) = false := by simp; omega
          have e4 : (A == B) = false := by simpa using hAB
          go_wp2_with fail
          refine (HLN.out _ u U7.out).mono ?_
          rintro e w8 ⟨rfl, b8⟩
          have T8 := Hid.mk7 (T7.out.later b8)
          have U8 := Hid.mk7 (U7.out.later b8)
          have g8 := g7.trans (b8.mono g7.size)
          clear T7 U7 g7 b8
          go_wp2_with fail
          refine (HS.out _ u t U8.out T8.out).mono ?_
          rintro e w9 ⟨rfl, b9⟩
          have g9 := g8.trans (b9.mono g8.size)
          clear T8 U8 g8 b9
          go_wp2
          go_ret
          exact ⟨rfl, g9⟩

theorem subwith_any (n fr to a b : Int) (hn : 0 ≤ n ∧ n ≤ 255) (hfr : 0 ≤ fr ∧ fr ≤ 255) (hto : 0 ≤ to ∧ to ≤ 255) (ha : 0 ≤ a ∧ a ≤ 255) (hb : 0 ≤ b ∧ b ≤ 255) (w : World) :
    Calls Try.prog 5 #[.int .u8 n, .int .u8 fr, .int .u8 to, .int .u8 a, .int .u8 b] w fun e w' => e = .returned (.bool true) ∧ Below w.heap.size w w' := by
  obtain ⟨k, hk, hk3⟩ : ∃ k : Nat, n % 100 = (k : Int) ∧ k < 100 := ⟨(n % 100).toNat, by omega, by omega⟩
  obtain ⟨f, hf, hf3⟩ : ∃ p : Nat, fr % ((k : Int) + 1) = (p : Int) ∧ p < k + 1 := ⟨(fr % ((k : Int) + 1)).toNat, by have := Int.emod_nonneg fr (show ((k : Int) + 1) ≠ 0 by omega); omega, by have := Int.emod_lt_of_pos fr (show (0 : Int) < (k : Int) + 1 by omega); omega⟩
  obtain ⟨t, ht, ht3⟩ : ∃ p : Nat, to % ((k : Int) + 1) = (p : Int) ∧ p < k + 1 := ⟨(to % ((k : Int) + 1)).toNat, by have := Int.emod_nonneg to (show ((k : Int) + 1) ≠ 0 by omega); omega, by have := Int.emod_lt_of_pos to (show (0 : Int) < (k : Int) + 1 by omega); omega⟩
  obtain ⟨A, hA, hA3⟩ : ∃ X : Nat, a % 101 = (X : Int) ∧ X ≤ 100 := ⟨(a % 101).toNat, by omega, by omega⟩
  obtain ⟨B, hB, hB3⟩ : ∃ Y : Nat, b % 101 = (Y : Int) ∧ Y ≤ 100 := ⟨(b % 101).toNat, by omega, by omega⟩
  rcases Nat.lt_trichotomy f t with h | h | h
  · exact with_core n fr to a b hn hfr hto ha hb k f t f t A B hk hk3 hf ht hA hA3 hB hB3 (by omega) (by omega) (Or.inl ⟨h, rfl, rfl⟩) w
  · subst h
    exact with_core0 n fr to a b hn hfr hto ha hb k f A B hk hk3 hf ht hA hA3 hB hB3 (by omega) w
  · exact with_core n fr to a b hn hfr hto ha hb k f t t f A B hk hk3 hf ht hA hA3 hB hB3 (by omega) (by omega) (Or.inr ⟨h, rfl, rfl⟩) w
end Go.Proofs.Ytgdolopggocleaa
