/- MapperPlain walked. -/
import Derived.Test.YtbkjcibfcpejfaaMapKnown
import Derived.Test.YtbkjcibfcpejfaaSubWith
namespace Go.Proofs.Ytbkjcibfcpejfaa
open Go.RowKit Go.Sort
set_option linter.unusedSimpArgs false
set_option linter.unusedVariables false

theorem zs_zeros (k : Nat) : zs (List.replicate k 0) = List.range k := by
  induction k with
  | zero => rfl
  | succ k ih => rw [rep_snoc, zs_snoc, ih, if_neg (by omega), List.length_replicate, List.range_succ]
theorem zs_ones (k : Nat) : zs (List.replicate k 1) = [] := by
  induction k with
  | zero => rfl
  | succ k ih => rw [rep_snoc, zs_snoc, ih, if_pos (by omega)]; rfl
theorem dn_zeros {k p : Nat} (h : p ≤ k) : dn (List.replicate k 0) p = p := by
  rw [dn_at (by simpa using h), List.take_replicate, zs_zeros, List.length_range]; omega
theorem up_zeros {k p : Nat} (h : p ≤ k) : up (List.replicate k 0) p = p := by
  unfold up
  rw [zs_zeros, List.length_replicate, Int.toNat_natCast]
  by_cases e : p < k
  · rw [List.getElem?_range e]; rfl
  · rw [List.getElem?_eq_none (by simp; omega)]
    show k = p
    omega
theorem nx_zeros {k p : Nat} (h : p ≤ k) : nx (List.replicate k 0) p = p := by
  by_cases e : p < k
  · exact nx_at (c := 0) (by rw [List.getElem?_replicate, if_pos e]) (by omega) (Int.le_refl _) (fun i _ hi => by omega)
  · rw [nx_out (fun i hi => by have := zs_lt hi; simp at this; omega), List.length_replicate]; omega
theorem dn_ones (k p : Nat) : dn (List.replicate k 1) p = 0 := by unfold dn; rw [zs_ones]; rfl
theorem up_ones (k : Nat) : up (List.replicate k 1) 0 = k := by unfold up; rw [zs_ones, List.length_replicate]; rfl
theorem nx_ones (k p : Nat) : nx (List.replicate k 1) p = k := by unfold nx; rw [zs_ones, List.length_replicate]; rfl
theorem rn_zeros (k : Nat) : rn true (List.replicate k 0) = [] := rn_rep_out [] (by decide) k
theorem rn_ones {k : Nat} (h : 1 ≤ k) : rn true (List.replicate k 1) = [(0, (k : Int))] := by
  have := rn_rep_in (b := true) [] (c := 1) (by decide) (k - 1)
  rw [List.nil_append, show k - 1 + 1 = k from by omega] at this
  rw [this]
  simp [rn_nil, ad_nil]
  omega
theorem put_all (k : Nat) : put (List.replicate k 0) 0 k 1 = List.replicate k 1 := by simp [put, cut]
theorem rle_ones (k : Nat) : (rle (List.replicate k 1)).length ≤ 1 := by
  cases k with
  | zero => decide
  | succ k =>
    have := rle_rep 1 [] [] rfl (by simp) k
    rw [List.append_nil] at this
    rw [this]; simp
theorem kwith {W : World} {p : Value} (k : Nat) (h : Sub W p (List.replicate k 0)) (hk : k ≤ 20000) :
    Calls Try.prog 23 #[p, .int .i64 0, .int .i64 (k : Nat), .int .i64 1] W fun e w' => ∃ p', e = .returned (.tuple #[p', .int .i64 0]) ∧ Sub w' p' (List.replicate k 1) ∧ Below W.heap.size W w' := by
  have := with_ok 0 k 1 h (by simpa using hk) (Nat.zero_le _) (by simp) (by omega) (by omega) (by rw [put_all]; have := rle_ones k; omega)
  rw [put_all] at this
  exact this
set_option maxHeartbeats 4000000 in
set_option maxRecDepth 100000 in
theorem plain9_any (n m : Int) (w : World) (hn : 0 ≤ n ∧ n ≤ 255) (hm : 0 ≤ m ∧ m ≤ 255) :
    Calls Try.prog 5 #[.int .u8 n, .int .u8 m] w fun e w' => e = .returned (.bool true) ∧ Below w.heap.size w w' := by
  obtain ⟨K, hK, hK3⟩ : ∃ K : Nat, n % 100 = (K : Int) ∧ K < 100 := ⟨(n % 100).toNat, by omega, by omega⟩
  obtain ⟨M, rfl⟩ : ∃ M : Nat, m = (M : Int) := ⟨m.toNat, by omega⟩
  obtain ⟨P, hP, hP3⟩ : ∃ P : Nat, M % (K + 1) = P ∧ P ≤ K := ⟨_, rfl, by have := Nat.mod_lt M (show 0 < K + 1 by omega); omega⟩
  have hP2 : (M : Int) % ((K : Int) + 1) = (P : Int) := by rw [← hP]; simp
  have HKN : Hid (∀ W : World, Calls Try.prog 22 #[.int .i64 (K : Int)] W fun e w' => ∃ p, e = .returned p ∧ Sub w' p (List.replicate K 0) ∧ Below W.heap.size W w') := fun W => new_any K W K rfl (by omega)
  have hZ : (List.replicate K (0 : Int)).length ≤ 20000 := by simp; omega
  have hO : (List.replicate K (1 : Int)).length ≤ 20000 := by simp; omega
  have hD0 := dn_zeros hP3
  have hU0 := up_zeros hP3
  have hN0 := nx_zeros hP3
  have hD1 := dn_ones K P
  have hU1 := up_ones K
  have hN1 := nx_ones K P
  have hR0 := rn_zeros K
  have HZ := Hid.mk7 hZ
  have HO := Hid.mk7 hO
  have HD0 := Hid.mk7 hD0
  have HU0 := Hid.mk7 hU0
  have HN0 := Hid.mk7 hN0
  have HD1 := Hid.mk7 hD1
  have HU1 := Hid.mk7 hU1
  have HN1 := Hid.mk7 hN1
  have HR0 := Hid.mk7 hR0
  clear hZ hO hD0 hU0 hN0 hD1 hU1 hN1 hR0 hP
  rcases (show K = 0 ∨ 1 ≤ K from by omega) with hk0 | hk0
  · have dk : ((K : Int) == 0) = true := by simp; omega
    have dk2 : (K == 0) = true := by simp; omega
    clear hk0
    go_enter Try.func5, Try.ntmps5
    go_wp2_with fail
    refine (known9_any w).mono ?_
    rintro e w1 ⟨rfl, b1⟩
    have g1 := b1
    clear b1
    go_wp2_with fail
    refine (HKN.out w1).mono ?_
    rintro e w2 ⟨p, rfl, hs, b2⟩
    have S2 := Hid.mk7 hs
    have g2 := g1.trans (b2.mono g1.size)
    clear g1 b2 hs
    go_wp2_with fail
    refine (kwith K S2.out (by omega)).mono ?_
    rintro e w3 ⟨q, rfl, hf, b3⟩
    have S3 := Hid.mk7 (S2.out.later b3)
    have F3 := Hid.mk7 hf
    have g3 := g2.trans (b3.mono g2.size)
    clear S2 g2 b3 hf
    go_wp2_with fail
    refine (kdown P P S3.out.n HZ.out HD0.out).mono ?_
    rintro e w4 ⟨rfl, b4⟩
    have S4 := Hid.mk7 (S3.out.later b4)
    have F4 := Hid.mk7 (F3.out.later b4)
    have g4 := g3.trans (b4.mono g3.size)
    clear S3 F3 g3 b4
    go_wp2_with fail
    refine (kup P P S4.out.n HZ.out (by omega) HU0.out).mono ?_
    rintro e w5 ⟨rfl, b5⟩
    have S5 := Hid.mk7 (S4.out.later b5)
    have F5 := Hid.mk7 (F4.out.later b5)
    have g5 := g4.trans (b5.mono g4.size)
    clear S4 F4 g4 b5
    go_wp2_with fail
    refine (knext P P S5.out.n HZ.out HN0.out).mono ?_
    rintro e w6 ⟨rfl, b6⟩
    have S6 := Hid.mk7 (S5.out.later b6)
    have F6 := Hid.mk7 (F5.out.later b6)
    have g6 := g5.trans (b6.mono g5.size)
    clear S5 F5 g5 b6
    go_wp2_with fail
    refine (kdown P 0 F6.out.n HO.out HD1.out).mono ?_
    rintro e w7 ⟨rfl, b7⟩
    have S7 := Hid.mk7 (S6.out.later b7)
    have F7 := Hid.mk7 (F6.out.later b7)
    have g7 := g6.trans (b7.mono g6.size)
    clear S6 F6 g6 b7
    go_wp2_with fail
    refine (kup 0 K F7.out.n HO.out (by omega) HU1.out).mono ?_
    rintro e w8 ⟨rfl, b8⟩
    have S8 := Hid.mk7 (S7.out.later b8)
    have F8 := Hid.mk7 (F7.out.later b8)
    have g8 := g7.trans (b8.mono g7.size)
    clear S7 F7 g7 b8
    go_wp2_with fail
    refine (knext P K F8.out.n HO.out HN1.out).mono ?_
    rintro e w9 ⟨rfl, b9⟩
    have S9 := Hid.mk7 (S8.out.later b9)
    have F9 := Hid.mk7 (F8.out.later b9)
    have g9 := g8.trans (b9.mono g8.size)
    clear S8 F8 g8 b9
    go_wp2_with fail
    refine (kruns true [] S9.out.n HZ.out HR0.out).mono ?_
    rintro e w10 ⟨rv, rfl, hr, b10⟩
    have S10 := Hid.mk7 (S9.out.later b10)
    have F10 := Hid.mk7 (F9.out.later b10)
    have g10 := g9.trans (b10.mono g9.size)
    obtain ⟨ra, rcap, rfl, hrcap, _⟩ := id hr
    clear S9 F9 g9 b10
    go_wp2
    go_ret
    exact ⟨rfl, g10⟩
  · have HR1 := Hid.mk7 (rn_ones hk0)
    have dk : ((K : Int) == 0) = false := by simp; omega
    have dk2 : (K == 0) = false := by simp; omega
    clear hk0
    go_enter Try.func5, Try.ntmps5
    go_wp2_with fail
    refine (known9_any w).mono ?_
    rintro e w1 ⟨rfl, b1⟩
    have g1 := b1
    clear b1
    go_wp2_with fail
    refine (HKN.out w1).mono ?_
    rintro e w2 ⟨p, rfl, hs, b2⟩
    have S2 := Hid.mk7 hs
    have g2 := g1.trans (b2.mono g1.size)
    clear g1 b2 hs
    go_wp2_with fail
    refine (kwith K S2.out (by omega)).mono ?_
    rintro e w3 ⟨q, rfl, hf, b3⟩
    have S3 := Hid.mk7 (S2.out.later b3)
    have F3 := Hid.mk7 hf
    have g3 := g2.trans (b3.mono g2.size)
    clear S2 g2 b3 hf
    go_wp2_with fail
    refine (kdown P P S3.out.n HZ.out HD0.out).mono ?_
    rintro e w4 ⟨rfl, b4⟩
    have S4 := Hid.mk7 (S3.out.later b4)
    have F4 := Hid.mk7 (F3.out.later b4)
    have g4 := g3.trans (b4.mono g3.size)
    clear S3 F3 g3 b4
    go_wp2_with fail
    refine (kup P P S4.out.n HZ.out (by omega) HU0.out).mono ?_
    rintro e w5 ⟨rfl, b5⟩
    have S5 := Hid.mk7 (S4.out.later b5)
    have F5 := Hid.mk7 (F4.out.later b5)
    have g5 := g4.trans (b5.mono g4.size)
    clear S4 F4 g4 b5
    go_wp2_with fail
    refine (knext P P S5.out.n HZ.out HN0.out).mono ?_
    rintro e w6 ⟨rfl, b6⟩
    have S6 := Hid.mk7 (S5.out.later b6)
    have F6 := Hid.mk7 (F5.out.later b6)
    have g6 := g5.trans (b6.mono g5.size)
    clear S5 F5 g5 b6
    go_wp2_with fail
    refine (kdown P 0 F6.out.n HO.out HD1.out).mono ?_
    rintro e w7 ⟨rfl, b7⟩
    have S7 := Hid.mk7 (S6.out.later b7)
    have F7 := Hid.mk7 (F6.out.later b7)
    have g7 := g6.trans (b7.mono g6.size)
    clear S6 F6 g6 b7
    go_wp2_with fail
    refine (kup 0 K F7.out.n HO.out (by omega) HU1.out).mono ?_
    rintro e w8 ⟨rfl, b8⟩
    have S8 := Hid.mk7 (S7.out.later b8)
    have F8 := Hid.mk7 (F7.out.later b8)
    have g8 := g7.trans (b8.mono g7.size)
    clear S7 F7 g7 b8
    go_wp2_with fail
    refine (knext P K F8.out.n HO.out HN1.out).mono ?_
    rintro e w9 ⟨rfl, b9⟩
    have S9 := Hid.mk7 (S8.out.later b9)
    have F9 := Hid.mk7 (F8.out.later b9)
    have g9 := g8.trans (b9.mono g8.size)
    clear S8 F8 g8 b9
    go_wp2_with fail
    refine (kruns true [] S9.out.n HZ.out HR0.out).mono ?_
    rintro e w10 ⟨rv, rfl, hr, b10⟩
    have S10 := Hid.mk7 (S9.out.later b10)
    have F10 := Hid.mk7 (F9.out.later b10)
    have g10 := g9.trans (b10.mono g9.size)
    obtain ⟨ra, rcap, rfl, hrcap, _⟩ := id hr
    clear S9 F9 g9 b10
    go_wp2_with fail
    refine (kruns true [(0, (K : Int))] F10.out.n HO.out HR1.out).mono ?_
    rintro e w11 ⟨rw, rfl, hrw, b11⟩
    have S11 := Hid.mk7 (S10.out.later b11)
    have F11 := Hid.mk7 (F10.out.later b11)
    have g11 := g10.trans (b11.mono g10.size)
    obtain ⟨rb, rcap2, rfl, hrcap2, _⟩ := id hrw
    clear S10 F10 g10 b11
    go_wp2
    go_ret
    exact ⟨rfl, g11⟩
end Go.Proofs.Ytbkjcibfcpejfaa
