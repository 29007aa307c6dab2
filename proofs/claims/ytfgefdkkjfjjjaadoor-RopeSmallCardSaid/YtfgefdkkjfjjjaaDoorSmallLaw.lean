/- RopeSmall, walked. -/
import Derived.Test.YtfgefdkkjfjjjaaDoorLng
import Derived.OwnWalk
namespace Go.Proofs.YtfgefdkkjfjjjaaDoor
open Go.RowKit Go.Sort
set_option linter.unusedSimpArgs false
set_option linter.unusedVariables false

theorem asc_nil' : Asc [] := by intro b hb; simp at hb

set_option maxHeartbeats 4000000 in
set_option maxRecDepth 100000 in
/-- RopeSmall. -/
theorem small_any (n at0 : Int) (hn : 0 ≤ n ∧ n ≤ 65535) (hf : 0 ≤ at0 ∧ at0 ≤ 65535) (w : World) (tb : Nat × Nat) (hB : Byt8 w) (hT : Tab w tb) :
    Calls Tryd.prog 6 #[.int .u16 n, .int .u16 at0] w fun e w' => e = .returned (.bool true) ∧ Below w.heap.size w w' := by
  have hTb : (weakE tb).Tb w := ⟨hB, hT⟩
  have htab : ∀ W, (weakE tb).Tb W → Tab W tb := fun W h => h.2
  have HLAT : Hid (∀ {W W' : World}, (weakE tb).Tb W → Below W.heap.size W W' → (weakE tb).Tb W') := fun h b => (weakE tb).later h b
  have HK := Hid.mk4 (known_any w tb hB hT)
  have HTB := Hid.mk4 hTb
  have HTAB := Hid.mk4 htab
  clear hTb htab hB hT
  obtain ⟨k, hk, hk3⟩ : ∃ k : Nat, n % 500 = (k : Int) ∧ k < 500 := ⟨(n % 500).toNat, by omega, by omega⟩
  have HLEN : Hid (∀ W g (T : List UInt8), RpA (weakE tb) W (.pointer (some ⟨g, 0, none⟩)) T → T.length ≤ 500 → Calls Tryd.prog 20 #[.pointer (some ⟨g, 0, none⟩)] W fun e w' => e = .returned (.int .i64 (T.length : Nat)) ∧ Below W.heap.size W w') := fun W g T h hl => rpa_len (weakE tb) h (by omega)
  have HCH : Hid (∀ W g (T : List UInt8), RpA (weakE tb) W (.pointer (some ⟨g, 0, none⟩)) T → T.length ≤ 500 → Calls Tryd.prog 21 #[.pointer (some ⟨g, 0, none⟩)] W fun e w' => ∃ b m cap, e = .returned (.slice (some ⟨b, 0, none⟩) m cap) ∧ m ≤ T.length / 16 + 2 ∧ Below W.heap.size W w') := fun W g T h hl => rpa_chunks (weakE tb) h (by omega)
  go_enter Tryd.func6, Tryd.ntmps6
  go_wp2_with fail
  refine HK.out.mono ?_
  rintro e w1 ⟨rfl, b1⟩
  have HT1 := Hid.mk4 (HLAT.out HTB.out b1)
  have HN : Hid (Calls Tryd.prog 10 #[.string ⟨#[]⟩] w1 fun e w' => ∃ r, e = .returned (.tuple #[r, .int .i64 0]) ∧ RpA (weakE tb) w' r [] ∧ Below w1.heap.size w1 w') :=
    new_ok (weakE tb) tb HTAB.out ⟨#[]⟩ w1 (by decide) (by decide) (asc_Dt tb asc_nil' (by decide)) HT1.out
  clear HK
  go_wp2_with fail
  refine HN.out.mono ?_
  rintro e w2 ⟨r, rfl, hr, b2⟩
  obtain ⟨g0, _, hrg, _⟩ := id hr
  subst hrg
  have g2 := b1.trans (b2.mono b1.size)
  have R2 := Hid.mk4 hr
  clear HN hr b1 b2 HT1
  go_wp2
  clear hk
  go_loopw [5, 8] (fun rv iv wr => ∃ (g i : Nat) (T : List UInt8), rv = .pointer (some ⟨g, 0, none⟩) ∧ iv = .int .i64 (i : Nat) ∧ i ≤ k ∧ Hid (RpA (weakE tb) wr (.pointer (some ⟨g, 0, none⟩)) T) ∧ Hid (Asc T) ∧ Hid (T.length = i) ∧ Below w.heap.size w wr) (fun _ iv _ => k - (intOf iv).toNat)
  case atStart => exact ⟨g0, 0, [], rfl, rfl, by omega, R2, asc_nil', rfl, g2⟩
  case round =>
    clear R2 g2
    obtain ⟨g, i, T, rfl, rfl, hi, R, A, L, gb⟩ := hrel
    by_cases hik : (i : Int) < (k : Int)
    · have HL : Hid (∀ W, RpA (weakE tb) W (.pointer (some ⟨g, 0, none⟩)) T → Calls Tryd.prog 20 #[.pointer (some ⟨g, 0, none⟩)] W fun e w' => e = .returned (.int .i64 (i : Nat)) ∧ Below W.heap.size W w') := fun W h => by
        have := HLEN.out W g T h (by rw [L.out]; omega)
        rwa [L.out] at this
      obtain ⟨p, hp, hpi⟩ : ∃ p : Nat, at0 % ((i : Int) + 1) = (p : Int) ∧ p ≤ i := ⟨(at0 % ((i : Int) + 1)).toNat, by have := Int.emod_nonneg at0 (show ((i : Int) + 1) ≠ 0 by omega); omega, by have := Int.emod_lt_of_pos at0 (show (0 : Int) < (i : Int) + 1 by omega); have := Int.emod_nonneg at0 (show ((i : Int) + 1) ≠ 0 by omega); omega⟩
      go_wp2_with fail
      refine (HL.out _ R.out).mono ?_
      rintro e w3 ⟨rfl, b3⟩
      have R3 := Hid.mk4 (R.out.later b3)
      have g3 := gb.trans (b3.mono gb.size)
      have HT3 := Hid.mk4 (HLAT.out HTB.out g3)
      have HRP : Hid (Calls Tryd.prog 15 #[.pointer (some ⟨g, 0, none⟩), .int .i64 (p : Nat), .int .i64 (p : Nat), .string ⟨#[122]⟩] w3 fun e w' => ∃ g' T', e = .returned (.tuple #[.pointer (some ⟨g', 0, none⟩), .int .i64 0]) ∧ RpA (weakE tb) w' (.pointer (some ⟨g', 0, none⟩)) T' ∧ Asc T' ∧ T'.length = i + 1 ∧ Below w3.heap.size w3 w') := by
        refine (rep_asc tb HTAB.out p p ⟨#[122]⟩ R3.out A.out (by intro b hb; simp at hb; subst hb; decide) (by rw [L.out]; omega) (Nat.le_refl _) (by rw [L.out]; exact hpi) (by decide) (by rw [L.out, show (⟨#[122]⟩ : ByteArray).size = 1 from rfl]; omega) HT3.out).mono ?_
        rintro e w' ⟨g', T', h1, h2, h3, h4, h5⟩
        refine ⟨g', T', h1, h2, h3, ?_, h5⟩
        rw [h4, L.out, show (⟨#[122]⟩ : ByteArray).size = 1 from rfl]
        omega
      clear HL R b3 gb HT3
      go_wp2_with fail
      refine HRP.out.mono ?_
      rintro e w4 ⟨g4', T4, rfl, hr4, ha4, hl4, b4⟩
      have R4 := Hid.mk4 hr4
      have A4 := Hid.mk4 ha4
      have L4 := Hid.mk4 hl4
      have g4 := g3.trans (b4.mono g3.size)
      clear HRP hr4 ha4 hl4 b4 g3 R3 A L
      go_wp2
      go_roundw
      case rel => exact ⟨g4', i + 1, T4, rfl, by go_num, by omega, R4, A4, L4, g4⟩
      case measure => simp [intOf]; omega
    · have hie : i = k := by omega
      subst hie
      have HL : Hid (∀ W, RpA (weakE tb) W (.pointer (some ⟨g, 0, none⟩)) T → Calls Tryd.prog 20 #[.pointer (some ⟨g, 0, none⟩)] W fun e w' => e = .returned (.int .i64 (i : Nat)) ∧ Below W.heap.size W w') := fun W h => by
        have := HLEN.out W g T h (by rw [L.out]; omega)
        rwa [L.out] at this
      go_wp2_with fail
      refine (HCH.out _ g T R.out (by rw [L.out]; omega)).mono ?_
      rintro e w3 ⟨bq, m, cap, rfl, hm, b3⟩
      rw [L.out] at hm
      have R3 := Hid.mk4 (R.out.later b3)
      have g3 := gb.trans (b3.mono gb.size)
      have hmi : decide ((i : Int) / 16 + 2 < (m : Int)) = false := by simp; omega
      have hmt : decide ((i : Int).tdiv 16 + 2 < (m : Int)) = false := by rw [Int.tdiv_eq_ediv_of_nonneg (by omega)]; exact hmi
      clear R b3 gb hik
      go_wp2_with fail
      refine (HL.out _ R3.out).mono ?_
      rintro e w4 ⟨rfl, b4⟩
      have R4 := Hid.mk4 (R3.out.later b4)
      have g4 := g3.trans (b4.mono g3.size)
      clear R3 b4 g3 HL hm
      go_wp2
      clear hmi hmt
      go_loopw [5, 12] (fun rv jv wr => ∃ (g j : Nat) (T : List UInt8), rv = .pointer (some ⟨g, 0, none⟩) ∧ jv = .int .i64 (j : Nat) ∧ j ≤ i ∧ Hid (RpA (weakE tb) wr (.pointer (some ⟨g, 0, none⟩)) T) ∧ Hid (Asc T) ∧ Hid (T.length = i - j) ∧ Below w.heap.size w wr) (fun _ jv _ => i - (intOf jv).toNat)
      case atStart => exact ⟨g, 0, T, rfl, rfl, by omega, R4, A, L, g4⟩
      case round =>
        clear R4 g4 A L
        obtain ⟨g, j, T, rfl, rfl, hj, R, A, L, gb⟩ := hrel
        by_cases hji : (j : Int) < (i : Int)
        · obtain ⟨N, hN⟩ : ∃ N : Nat, N = i - j := ⟨_, rfl⟩
          have hN1 : 0 < N := by omega
          have hN2 : N ≤ 500 := by omega
          have HN := Hid.mk4 hN
          rw [← hN] at L
          clear hN
          have HL : Hid (∀ W, RpA (weakE tb) W (.pointer (some ⟨g, 0, none⟩)) T → Calls Tryd.prog 20 #[.pointer (some ⟨g, 0, none⟩)] W fun e w' => e = .returned (.int .i64 (N : Nat)) ∧ Below W.heap.size W w') := fun W h => by
            have := HLEN.out W g T h (by rw [L.out]; omega)
            rwa [L.out] at this
          have hpr : 0 ≤ (j : Int) * at0 ∧ (j : Int) * at0 ≤ 500 * 65535 := ⟨Int.mul_nonneg (by omega) hf.1, by
            have h1 : (j : Int) * at0 ≤ 500 * at0 := Int.mul_le_mul_of_nonneg_right (by omega) hf.1
            omega⟩
          have hNz : ((N : Int) == 0) = false := by simp; omega
          obtain ⟨p, hp, hpi⟩ : ∃ p : Nat, (j : Int) * at0 % (N : Int) = (p : Int) ∧ p < N := ⟨((j : Int) * at0 % (N : Int)).toNat, by have := Int.emod_nonneg ((j : Int) * at0) (show (N : Int) ≠ 0 by omega); omega, by have := Int.emod_lt_of_pos ((j : Int) * at0) (show (0 : Int) < (N : Int) by omega); have := Int.emod_nonneg ((j : Int) * at0) (show (N : Int) ≠ 0 by omega); omega⟩
          go_wp2
          refine wp_region_mix [([0, 1, 2, 3, 4, 5, 8, 9, 10, 11, 12], [6]), ([7], [13]), ([14, 15], [16]), ([17, 18, 19, 20, 21], [])] (by kernel_rfl) (by kernel_rfl) ?_
          rintro w3 ⟨d3, rfl⟩
          refine wpPlan_cons ?_
          simp only [pickAll, pickAt, List.nil_append, List.cons_append, List.append_nil]
          repeat (go_big_quiet_step (fail))
          refine wpQuiet_nil ?_
          go_wp2_with fail
          refine (HL.out _ (R.out.later (below_redrawn wr d3))).mono ?_
          rintro e w4 ⟨rfl, b4⟩
          have b24 : Below wr.heap.size wr w4 := (below_redrawn wr d3).trans b4
          clear b4
          go_wp2
          refine mixNext_below b24 ?_
          refine wpPlan_cons ?_
          simp only [pickAll, pickAt, List.nil_append, List.cons_append, List.append_nil]
          repeat (go_big_quiet_step (fail))
          refine wpQuiet_nil ?_
          go_wp2_with fail
          refine (HL.out _ (R.out.later b24)).mono ?_
          rintro e w5 ⟨rfl, b5⟩
          have b25 : Below wr.heap.size wr w5 := b24.trans (b5.mono b24.size)
          clear b5 b24
          go_wp2
          refine mixNext_below b25 ?_
          refine wpPlan_cons ?_
          simp only [pickAll, pickAt, List.nil_append, List.cons_append, List.append_nil]
          repeat (go_big_quiet_step (fail))
          refine wpQuiet_nil ?_
          have g5 := gb.trans (b25.mono gb.size)
          have HT5 := Hid.mk4 (HLAT.out HTB.out g5)
          have HRP : Hid (Calls Tryd.prog 15 #[.pointer (some ⟨g, 0, none⟩), .int .i64 (p : Nat), .int .i64 ((p : Int) + 1), .string ⟨#[]⟩] w5 fun e w' => ∃ g' T', e = .returned (.tuple #[.pointer (some ⟨g', 0, none⟩), .int .i64 0]) ∧ RpA (weakE tb) w' (.pointer (some ⟨g', 0, none⟩)) T' ∧ Asc T' ∧ T'.length = N - 1 ∧ Below w5.heap.size w5 w') := by
            refine (rep_asc tb HTAB.out p (p + 1) ⟨#[]⟩ (R.out.later b25) A.out (by intro b hb; simp at hb) (by rw [L.out]; omega) (by omega) (by rw [L.out]; omega) (by decide) (by rw [L.out, show (⟨#[]⟩ : ByteArray).size = 0 from rfl]; omega) HT5.out).mono ?_
            rintro e w' ⟨g', T', h1, h2, h3, h4, h5⟩
            refine ⟨g', T', h1, h2, h3, ?_, h5⟩
            rw [h4, L.out, show (⟨#[]⟩ : ByteArray).size = 0 from rfl]
            omega
          go_wp2_with fail
          refine HRP.out.mono ?_
          rintro e w6 ⟨g6', T6, rfl, hr6, ha6, hl6, b6⟩
          have R6 := Hid.mk4 hr6
          have A6 := Hid.mk4 ha6
          have L6 := Hid.mk4 hl6
          have b26 : Below wr.heap.size wr w6 := b25.trans (b6.mono b25.size)
          have g6 := g5.trans (b6.mono g5.size)
          clear HRP hr6 ha6 hl6 b6 b25 g5 HT5 HL
          go_wp2
          refine mixNext_below b26 ?_
          refine wpPlan_cons ?_
          simp only [pickAll, pickAt, List.nil_append, List.cons_append, List.append_nil]
          repeat (go_big_quiet_step (fail))
          refine wpQuiet_nil ?_
          refine mixNext_below b26 (wpPlan_nil ?_)
          clear R A L gb b26 hp hpi hpr hNz
          go_wp2_with fail
          refine (HCH.out _ g6' T6 R6.out (by rw [L6.out]; omega)).mono ?_
          rintro e w7 ⟨bq2, m2, cap2, rfl, hm2, b7⟩
          rw [L6.out] at hm2
          have R7 := Hid.mk4 (R6.out.later b7)
          have g7 := g6.trans (b7.mono g6.size)
          obtain ⟨M, hM⟩ : ∃ M : Nat, M = N - 1 := ⟨_, rfl⟩
          rw [← hM] at hm2 L6
          have HMN : Hid (M = i - (j + 1)) := by have := HN.out; exact (by omega : M = i - (j + 1))
          have HL7 : Hid (Calls Tryd.prog 20 #[.pointer (some ⟨g6', 0, none⟩)] w7 fun e w' => e = .returned (.int .i64 (M : Nat)) ∧ Below w7.heap.size w7 w') := by
            have := HLEN.out w7 g6' T6 R7.out (by rw [L6.out]; omega)
            rwa [L6.out] at this
          have hmi : decide ((M : Int) / 16 + 2 < (m2 : Int)) = false := by simp; omega
          have hmt : decide ((M : Int).tdiv 16 + 2 < (m2 : Int)) = false := by rw [Int.tdiv_eq_ediv_of_nonneg (by omega)]; exact hmi
          have hM5 : M ≤ 500 := by omega
          clear R6 b7 g6 hm2 hM HN hN1 hN2
          go_wp2_with fail
          refine HL7.out.mono ?_
          rintro e w8 ⟨rfl, b8⟩
          have R8 := Hid.mk4 (R7.out.later b8)
          have g8 := g7.trans (b8.mono g7.size)
          clear HL7 R7 b8 g7
          go_wp2
          go_roundw
          case rel => exact ⟨g6', j + 1, T6, rfl, by go_num, by omega, R8, A6, L6.out.trans HMN.out, g8⟩
          case measure => simp [intOf]; omega
        · have hje : j = i := by omega
          have hT0 : T = [] := List.eq_nil_of_length_eq_zero (by rw [L.out]; omega)
          subst hT0
          clear L A hj hje
          have HL9 : Hid (∀ W, RpA (weakE tb) W (.pointer (some ⟨g, 0, none⟩)) [] → Calls Tryd.prog 20 #[.pointer (some ⟨g, 0, none⟩)] W fun e w' => e = .returned (.int .i64 0) ∧ Below W.heap.size W w') := fun W h => HLEN.out W g [] h (by decide)
          have HST : Hid (∀ W, RpA (weakE tb) W (.pointer (some ⟨g, 0, none⟩)) [] → Calls Tryd.prog 22 #[.pointer (some ⟨g, 0, none⟩)] W fun e w' => e = .returned (.string ⟨#[]⟩) ∧ Below W.heap.size W w') := fun W h => rpa_string (weakE tb) h (by decide)
          have hs0 : ((⟨#[]⟩ : ByteArray) == ⟨#[]⟩) = true := rfl
          go_wp2_with fail
          refine (HL9.out _ R.out).mono ?_
          rintro e w3 ⟨rfl, b3⟩
          have R3 := Hid.mk4 (R.out.later b3)
          have g3 := gb.trans (b3.mono gb.size)
          clear HL9 R b3 gb
          go_wp2_with fail
          refine (HST.out _ R3.out).mono ?_
          rintro e w4 ⟨rfl, b4⟩
          have R4 := Hid.mk4 (R3.out.later b4)
          have g4 := g3.trans (b4.mono g3.size)
          clear HST R3 b4 g3
          go_wp2_with fail
          refine (HCH.out _ g [] R4.out (by decide)).mono ?_
          rintro e w5 ⟨bq3, m3, cap3, rfl, hm3, b5⟩
          have g5 := g4.trans (b5.mono g4.size)
          have hm3' : m3 ≤ 2 := by simpa using hm3
          have hmd : decide ((m3 : Int) ≤ 2) = true := decide_eq_true (by omega)
          clear hm3 hm3' R4 b5 g4
          go_wp2
          go_ret
          exact ⟨rfl, g5⟩
end Go.Proofs.YtfgefdkkjfjjjaaDoor
