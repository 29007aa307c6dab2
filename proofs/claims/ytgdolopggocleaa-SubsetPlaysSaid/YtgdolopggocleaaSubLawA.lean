/- SubsetWrong, walked. -/
import Derived.Test.YtgdolopggocleaaSubKnown
namespace Go.Proofs.Ytgdolopggocleaa
open Go.RowKit Go.Sort
set_option linter.unusedSimpArgs false
set_option linter.unusedVariables false

theorem szc_zeros (n : Nat) : szc (List.replicate n 0) = 0 := by rw [szc_rep]; simp
theorem szc_put_zeros (k fr to : Nat) (c : Int) (h1 : fr ≤ to) (h2 : to ≤ k) : szc (put (List.replicate k 0) fr to c) = if 0 < c then to - fr else 0 := by
  unfold put cut
  simp only [List.take_replicate, List.drop_replicate, List.length_replicate, szc_append, szc_rep]
  simp

set_option maxHeartbeats 2000000 in
set_option maxRecDepth 100000 in
theorem wrong_form1 (n : Int) (k : Nat) (fr to c : Int) (hk : n % 60 = (k : Int)) (hk3 : k < 60) (hn : 0 ≤ n ∧ n ≤ 255) (w : World) (f1 : 0 ≤ fr) (f2 : fr ≤ to) (f3 : to ≤ (k : Int)) (hc : c < 0) :
    Calls Try.prog 7 #[.int .u8 n, .int .i64 fr, .int .i64 to, .int .i64 c] w fun e w' => e = .returned (.bool true) ∧ Below w.heap.size w w' := by
  have HK := Hid.mk7 (known7_any w)
  have HN : Hid (∀ W, Calls Try.prog 19 #[.int .i64 (k : Nat)] W fun e w' => ∃ p, e = .returned p ∧ Sub w' p (List.replicate k 0) ∧ Below W.heap.size W w') := fun W => new_any k W k rfl (by omega)
  have HW : Hid (∀ W p, Sub W p (List.replicate k 0) → Calls Try.prog 13 #[p, .int .i64 fr, .int .i64 to, .int .i64 c] W fun e w' => e = .returned (.tuple #[.pointer none, .int .i64 12]) ∧ Below W.heap.size W w') := fun W p h => with_form fr to c h (by simp; omega) (by simp; omega) (Or.inl hc)
  go_enter Try.func7, Try.ntmps7
  go_wp2_with fail
  refine HK.out.mono ?_
  rintro e w1 ⟨rfl, b1⟩
  go_wp2_with fail
  refine (HN.out _).mono ?_
  rintro e w2 ⟨p, rfl, hp, b2⟩
  have P2 := Hid.mk7 hp
  have g2 := b1.trans (b2.mono b1.size)
  clear hp b1 b2 HK HN
  go_wp2_with fail
  refine (HW.out _ p P2.out).mono ?_
  rintro e w3 ⟨rfl, b3⟩
  have g3 := g2.trans (b3.mono g2.size)
  clear HW P2 g2 b3
  go_wp2
  go_ret
  exact ⟨rfl, g3⟩
set_option maxHeartbeats 2000000 in
set_option maxRecDepth 100000 in
theorem wrong_form2 (n : Int) (k : Nat) (fr to c : Int) (hk : n % 60 = (k : Int)) (hk3 : k < 60) (hn : 0 ≤ n ∧ n ≤ 255) (w : World) (f1 : 0 ≤ fr) (f2 : fr ≤ to) (f3 : to ≤ (k : Int)) (hc : 100 < c) :
    Calls Try.prog 7 #[.int .u8 n, .int .i64 fr, .int .i64 to, .int .i64 c] w fun e w' => e = .returned (.bool true) ∧ Below w.heap.size w w' := by
  have HK := Hid.mk7 (known7_any w)
  have HN : Hid (∀ W, Calls Try.prog 19 #[.int .i64 (k : Nat)] W fun e w' => ∃ p, e = .returned p ∧ Sub w' p (List.replicate k 0) ∧ Below W.heap.size W w') := fun W => new_any k W k rfl (by omega)
  have HW : Hid (∀ W p, Sub W p (List.replicate k 0) → Calls Try.prog 13 #[p, .int .i64 fr, .int .i64 to, .int .i64 c] W fun e w' => e = .returned (.tuple #[.pointer none, .int .i64 12]) ∧ Below W.heap.size W w') := fun W p h => with_form fr to c h (by simp; omega) (by simp; omega) (Or.inr hc)
  have dc : decide (c < 0) = false := decide_eq_false (by omega)
  go_enter Try.func7, Try.ntmps7
  go_wp2_with fail
  refine HK.out.mono ?_
  rintro e w1 ⟨rfl, b1⟩
  go_wp2_with fail
  refine (HN.out _).mono ?_
  rintro e w2 ⟨p, rfl, hp, b2⟩
  have P2 := Hid.mk7 hp
  have g2 := b1.trans (b2.mono b1.size)
  clear hp b1 b2 HK HN
  go_wp2_with fail
  refine (HW.out _ p P2.out).mono ?_
  rintro e w3 ⟨rfl, b3⟩
  have g3 := g2.trans (b3.mono g2.size)
  clear HW P2 g2 b3
  go_wp2
  go_ret
  exact ⟨rfl, g3⟩
set_option maxHeartbeats 2000000 in
set_option maxRecDepth 100000 in
theorem wrong_range1 (n : Int) (k : Nat) (fr to c : Int) (hk : n % 60 = (k : Int)) (hk3 : k < 60) (hn : 0 ≤ n ∧ n ≤ 255) (w : World) (f1 : fr < 0) :
    Calls Try.prog 7 #[.int .u8 n, .int .i64 fr, .int .i64 to, .int .i64 c] w fun e w' => e = .returned (.bool true) ∧ Below w.heap.size w w' := by
  have HK := Hid.mk7 (known7_any w)
  have HN : Hid (∀ W, Calls Try.prog 19 #[.int .i64 (k : Nat)] W fun e w' => ∃ p, e = .returned p ∧ Sub w' p (List.replicate k 0) ∧ Below W.heap.size W w') := fun W => new_any k W k rfl (by omega)
  have HW : Hid (∀ W p, Sub W p (List.replicate k 0) → Calls Try.prog 13 #[p, .int .i64 fr, .int .i64 to, .int .i64 c] W fun e w' => e = .returned (.tuple #[.pointer none, .int .i64 10]) ∧ Below W.heap.size W w') := fun W p h => with_range fr to c h (by simp; omega) (by omega)
  have dc : decide (0 ≤ fr) = false := decide_eq_false (by omega)
  go_enter Try.func7, Try.ntmps7
  go_wp2_with fail
  refine HK.out.mono ?_
  rintro e w1 ⟨rfl, b1⟩
  go_wp2_with fail
  refine (HN.out _).mono ?_
  rintro e w2 ⟨p, rfl, hp, b2⟩
  have P2 := Hid.mk7 hp
  have g2 := b1.trans (b2.mono b1.size)
  clear hp b1 b2 HK HN
  go_wp2_with fail
  refine (HW.out _ p P2.out).mono ?_
  rintro e w3 ⟨rfl, b3⟩
  have g3 := g2.trans (b3.mono g2.size)
  clear HW P2 g2 b3
  go_wp2
  go_ret
  exact ⟨rfl, g3⟩
set_option maxHeartbeats 2000000 in
set_option maxRecDepth 100000 in
theorem wrong_range2 (n : Int) (k : Nat) (fr to c : Int) (hk : n % 60 = (k : Int)) (hk3 : k < 60) (hn : 0 ≤ n ∧ n ≤ 255) (w : World) (f1 : 0 ≤ fr) (f2 : to < fr) :
    Calls Try.prog 7 #[.int .u8 n, .int .i64 fr, .int .i64 to, .int .i64 c] w fun e w' => e = .returned (.bool true) ∧ Below w.heap.size w w' := by
  have HK := Hid.mk7 (known7_any w)
  have HN : Hid (∀ W, Calls Try.prog 19 #[.int .i64 (k : Nat)] W fun e w' => ∃ p, e = .returned p ∧ Sub w' p (List.replicate k 0) ∧ Below W.heap.size W w') := fun W => new_any k W k rfl (by omega)
  have HW : Hid (∀ W p, Sub W p (List.replicate k 0) → Calls Try.prog 13 #[p, .int .i64 fr, .int .i64 to, .int .i64 c] W fun e w' => e = .returned (.tuple #[.pointer none, .int .i64 10]) ∧ Below W.heap.size W w') := fun W p h => with_range fr to c h (by simp; omega) (by omega)
  have dc : decide (fr ≤ to) = false := decide_eq_false (by omega)
  go_enter Try.func7, Try.ntmps7
  go_wp2_with fail
  refine HK.out.mono ?_
  rintro e w1 ⟨rfl, b1⟩
  go_wp2_with fail
  refine (HN.out _).mono ?_
  rintro e w2 ⟨p, rfl, hp, b2⟩
  have P2 := Hid.mk7 hp
  have g2 := b1.trans (b2.mono b1.size)
  clear hp b1 b2 HK HN
  go_wp2_with fail
  refine (HW.out _ p P2.out).mono ?_
  rintro e w3 ⟨rfl, b3⟩
  have g3 := g2.trans (b3.mono g2.size)
  clear HW P2 g2 b3
  go_wp2
  go_ret
  exact ⟨rfl, g3⟩
set_option maxHeartbeats 2000000 in
set_option maxRecDepth 100000 in
theorem wrong_range3 (n : Int) (k : Nat) (fr to c : Int) (hk : n % 60 = (k : Int)) (hk3 : k < 60) (hn : 0 ≤ n ∧ n ≤ 255) (w : World) (f1 : 0 ≤ fr) (f2 : fr ≤ to) (f3 : (k : Int) < to) :
    Calls Try.prog 7 #[.int .u8 n, .int .i64 fr, .int .i64 to, .int .i64 c] w fun e w' => e = .returned (.bool true) ∧ Below w.heap.size w w' := by
  have HK := Hid.mk7 (known7_any w)
  have HN : Hid (∀ W, Calls Try.prog 19 #[.int .i64 (k : Nat)] W fun e w' => ∃ p, e = .returned p ∧ Sub w' p (List.replicate k 0) ∧ Below W.heap.size W w') := fun W => new_any k W k rfl (by omega)
  have HW : Hid (∀ W p, Sub W p (List.replicate k 0) → Calls Try.prog 13 #[p, .int .i64 fr, .int .i64 to, .int .i64 c] W fun e w' => e = .returned (.tuple #[.pointer none, .int .i64 10]) ∧ Below W.heap.size W w') := fun W p h => with_range fr to c h (by simp; omega) (by simp; omega)
  have dc : decide (to ≤ (k : Int)) = false := decide_eq_false (by omega)
  go_enter Try.func7, Try.ntmps7
  go_wp2_with fail
  refine HK.out.mono ?_
  rintro e w1 ⟨rfl, b1⟩
  go_wp2_with fail
  refine (HN.out _).mono ?_
  rintro e w2 ⟨p, rfl, hp, b2⟩
  have P2 := Hid.mk7 hp
  have g2 := b1.trans (b2.mono b1.size)
  clear hp b1 b2 HK HN
  go_wp2_with fail
  refine (HW.out _ p P2.out).mono ?_
  rintro e w3 ⟨rfl, b3⟩
  have g3 := g2.trans (b3.mono g2.size)
  clear HW P2 g2 b3
  go_wp2
  go_ret
  exact ⟨rfl, g3⟩
set_option maxHeartbeats 2000000 in
set_option maxRecDepth 100000 in
theorem wrong_ok (n : Int) (k : Nat) (fr to c : Int) (hk : n % 60 = (k : Int)) (hk3 : k < 60) (hn : 0 ≤ n ∧ n ≤ 255) (w : World) (f1 : 0 ≤ fr) (f2 : fr ≤ to) (f3 : to ≤ (k : Int)) (hc0 : 0 ≤ c) (hc1 : c ≤ 100) :
    Calls Try.prog 7 #[.int .u8 n, .int .i64 fr, .int .i64 to, .int .i64 c] w fun e w' => e = .returned (.bool true) ∧ Below w.heap.size w w' := by
  have HK := Hid.mk7 (known7_any w)
  have HN : Hid (∀ W, Calls Try.prog 19 #[.int .i64 (k : Nat)] W fun e w' => ∃ p, e = .returned p ∧ Sub w' p (List.replicate k 0) ∧ Below W.heap.size W w') := fun W => new_any k W k rfl (by omega)
  obtain ⟨a, rfl⟩ : ∃ a : Nat, fr = (a : Int) := ⟨fr.toNat, by omega⟩
  obtain ⟨b, rfl⟩ : ∃ b : Nat, to = (b : Int) := ⟨to.toNat, by omega⟩
  have HW : Hid (∀ W p, Sub W p (List.replicate k 0) → Calls Try.prog 13 #[p, .int .i64 (a : Nat), .int .i64 (b : Nat), .int .i64 c] W fun e w' => ∃ p', e = .returned (.tuple #[p', .int .i64 0]) ∧ Sub w' p' (put (List.replicate k 0) a b c) ∧ Below W.heap.size W w') := fun W p h => with_ok a b c h (by simp; omega) (by omega) (by simp; omega) hc0 hc1 (Nat.le_trans (rle_len _) (by rw [put_length _ _ _ _ (by omega) (by simp; omega)]; simp; omega))
  have HS1 : Hid (∀ W p, Sub W p (put (List.replicate k 0) a b c) → Calls Try.prog 22 #[p] W fun e w' => e = .returned (.int .i64 (if 0 < c then (b : Int) - (a : Int) else 0)) ∧ Below W.heap.size W w') := fun W p h => by
    have := size_any7 h (by rw [put_length _ _ _ _ (by omega) (by simp; omega)]; simp; omega)
    rw [szc_put_zeros k a b c (by omega) (by omega)] at this
    rw [show ((if 0 < c then b - a else 0 : Nat) : Int) = (if 0 < c then (b : Int) - (a : Int) else 0) from by split <;> omega] at this
    exact this
  have HS2 : Hid (∀ W p, Sub W p (List.replicate k 0) → Calls Try.prog 22 #[p] W fun e w' => e = .returned (.int .i64 0) ∧ Below W.heap.size W w') := fun W p h => by
    have := size_any7 h (by simp; omega)
    rw [szc_zeros] at this
    exact this
  have dc : decide (c < 0) = false := decide_eq_false (by omega)
  have dc2 : decide (100 < c) = false := decide_eq_false (by omega)
  go_enter Try.func7, Try.ntmps7
  go_wp2_with fail
  refine HK.out.mono ?_
  rintro e w1 ⟨rfl, b1⟩
  go_wp2_with fail
  refine (HN.out _).mono ?_
  rintro e w2 ⟨p, rfl, hp, b2⟩
  have P2 := Hid.mk7 hp
  have g2 := b1.trans (b2.mono b1.size)
  clear hp b1 b2 HK HN
  go_wp2_with fail
  refine (HW.out _ p P2.out).mono ?_
  rintro e w3 ⟨t, rfl, ht, b3⟩
  have P3 := Hid.mk7 (P2.out.later b3)
  have T3 := Hid.mk7 ht
  have g3 := g2.trans (b3.mono g2.size)
  clear HW P2 g2 b3 ht
  by_cases hcp : 0 < c
  all_goals
    go_wp2_with fail
    refine (HS1.out _ t T3.out).mono ?_
    rintro e w4 ⟨rfl, b4⟩
    have P4 := Hid.mk7 (P3.out.later b4)
    have g4 := g3.trans (b4.mono g3.size)
    clear HS1 P3 T3 g3 b4
    go_wp2_with fail
    refine (HS2.out _ p P4.out).mono ?_
    rintro e w5 ⟨rfl, b5⟩
    have g5 := g4.trans (b5.mono g4.size)
    clear HS2 P4 g4 b5
    go_wp2
    go_ret
    exact ⟨rfl, g5⟩
theorem wrong_any (n fr to c : Int) (hn : 0 ≤ n ∧ n ≤ 255) (w : World) :
    Calls Try.prog 7 #[.int .u8 n, .int .i64 fr, .int .i64 to, .int .i64 c] w fun e w' => e = .returned (.bool true) ∧ Below w.heap.size w w' := by
  obtain ⟨k, hk, hk3⟩ : ∃ k : Nat, n % 60 = (k : Int) ∧ k < 60 := ⟨(n % 60).toNat, by omega, by omega⟩
  by_cases f1 : 0 ≤ fr
  · by_cases f2 : fr ≤ to
    · by_cases f3 : to ≤ (k : Int)
      · by_cases c1 : c < 0
        · exact wrong_form1 n k fr to c hk hk3 hn w f1 f2 f3 c1
        · by_cases c2 : 100 < c
          · exact wrong_form2 n k fr to c hk hk3 hn w f1 f2 f3 c2
          · exact wrong_ok n k fr to c hk hk3 hn w f1 f2 f3 (by omega) (by omega)
      · exact wrong_range3 n k fr to c hk hk3 hn w f1 f2 (by omega)
    · exact wrong_range2 n k fr to c hk hk3 hn w f1 (by omega)
  · exact wrong_range1 n k fr to c hk hk3 hn w (by omega)
end Go.Proofs.Ytgdolopggocleaa
