/- RopeLong, walked. -/
import Derived.Test.YtfgefdkkjfjjjaaDoorLng
import Derived.Laws.IdiomStrings
import Derived.OwnWalk
namespace Go.Proofs.YtfgefdkkjfjjjaaDoor
open Go.RowKit Go.Sort
set_option linter.unusedSimpArgs false
set_option linter.unusedVariables false


set_option maxHeartbeats 4000000 in
set_option maxRecDepth 100000 in
/-- RopeLong. -/
theorem long_any (n fr : Int) (hn : 0 ≤ n ∧ n ≤ 255) (hf : 0 ≤ fr ∧ fr ≤ 65535) (w : World) (tb : Nat × Nat) (hB : Byt8 w) (hT : Tab w tb) :
    Calls Tryd.prog 4 #[.int .u8 n, .int .u16 fr] w fun e w' => e = .returned (.bool true) ∧ Below w.heap.size w w' := by
  obtain ⟨i0, hi, hz0, hz1, hz2⟩ := info_parts Tryd.info_byte
  have hTb : (weakE tb).Tb w := ⟨hB, hT⟩
  have htab : ∀ W, (weakE tb).Tb W → Tab W tb := fun W h => h.2
  have lat : ∀ {W W' : World}, (weakE tb).Tb W → Below W.heap.size W W' → (weakE tb).Tb W' := fun h b => (weakE tb).later h b
  have HK := Hid.mk4 (known_any w tb hB hT)
  have HTB := Hid.mk4 hTb
  have HTAB := Hid.mk4 htab
  clear hTb htab hB hT
  obtain ⟨k, hk, hk3⟩ : ∃ k : Nat, n % 4 = (k : Int) ∧ k ≤ 3 := ⟨(n % 4).toNat, by omega, by omega⟩
  obtain ⟨N, hN⟩ : ∃ N : Nat, N + k = 20000 := ⟨20000 - k, by omega⟩
  have hN1 : 19997 ≤ N := by omega
  have hN2 : N ≤ 20000 := by omega
  have hNi : (20000 : Int) - (k : Int) = (N : Int) := by omega
  have HNk := Hid.mk4 hN
  clear hN
  go_enter Tryd.func4, Tryd.ntmps4
  go_wp2_with fail
  refine HK.out.mono ?_
  rintro e w1 ⟨rfl, b1⟩
  have HT1 := Hid.mk4 (lat HTB.out b1)
  clear HK
  go_wp2_with (at_make; refine wpList_make_full _ rfl _ _ 43 rfl w1.heap.size 5 i0 (.int .u8 0) 1 Tryd.underlying43 hi hz0 hz1 .i64 .i64 _ _ N rfl rfl ?m0 ?m0' ?m1 ?m2 ?m3 ?_)
  case m0 => omega
  case m0' => omega
  case m1 => rw [hz2]; omega
  case m2 => unfold maxLen; omega
  case m3 => exact Nat.le_refl _
  intro w2 ho2 hg2
  obtain ⟨S, hS, hSz, hcv⟩ := zeros_string ho2
  have b2 : Below w1.heap.size w1 w2 := (Below.refl _ _).grown hg2 (Nat.le_refl _) (fun k hk => by cases hk)
  have g2 := b1.trans (b2.mono b1.size)
  have HT2 := Hid.mk4 (lat HT1.out b2)
  have aR : Asc (List.replicate N (0 : UInt8)) := asc_rep N (by decide)
  have HAR := Hid.mk4 aR
  have HN : Hid (Calls Tryd.prog 10 #[.string S] w2 fun e w' => ∃ r, e = .returned (.tuple #[r, .int .i64 0]) ∧ RpA (weakE tb) w' r (List.replicate N 0) ∧ Below w2.heap.size w2 w') := by
    have := new_ok (weakE tb) tb HTAB.out S w2 (by omega) (by rw [hS, asc_cln aR]; simpa using hN2) (by rw [hS, asc_cln aR]; exact asc_Dt tb aR (by simp; omega)) HT2.out
    rw [hS, asc_cln aR] at this
    exact this
  obtain ⟨S5, hS5⟩ : ∃ S5 : ByteArray, S5 = S ++ ⟨#[49, 50, 51, 52, 53]⟩ := ⟨_, rfl⟩
  have e5 : S5.data.toList = List.replicate N 0 ++ [49, 50, 51, 52, 53] := by rw [hS5]; simp [hS]
  have e5z : S5.size = N + 5 := by rw [hS5, ByteArray.size_append, hSz]; rfl
  have HS5 : Hid (∀ W, Tab W tb → Calls Tryd.prog 10 #[.string S5] W fun e w' => e = .returned (.tuple #[.pointer none, .int .i64 13]) ∧ Below W.heap.size W w') := fun W hW => by
    refine new_long S5 W tb (by omega) ?_ hW
    rw [e5, asc_cln (asc_append aR (by intro b hb; simp at hb; rcases hb with rfl | rfl | rfl | rfl | rfl <;> decide))]
    rw [List.length_append, List.length_replicate]
    simp only [List.length_cons, List.length_nil]
    omega
  have hadd : ∀ W, Sem.run Tryd.prog (Op.stringOp BinOp.add S ⟨#[49, 50, 51, 52, 53]⟩) W = .ok (.string S5) W := fun W => by
    rw [hS5]
    exact run_string_add_sum W _ _ (by rw [hSz, show (⟨#[49, 50, 51, 52, 53]⟩ : ByteArray).size = 5 from rfl]; omega)
  clear hS5 e5 e5z
  clear ho2 hg2 b1 b2 HT1 aR hS hSz
  go_wp2_with fail
  refine HN.out.mono ?_
  rintro e w3 ⟨r, rfl, hr, b3⟩
  obtain ⟨g, _, hrg, _⟩ := id hr
  subst hrg
  have g3 := g2.trans (b3.mono g2.size)
  have R3 := Hid.mk4 hr
  have HT3 := Hid.mk4 (lat HT2.out b3)
  clear HN hr b3 HT2 g2 hcv
  go_wp2_with fail
  refine (HS5.out _ (HTAB.out _ HT3.out)).mono ?_
  rintro e w4 ⟨rfl, b4⟩
  have g4 := g3.trans (b4.mono g3.size)
  have R4 := Hid.mk4 (R3.out.later b4)
  have HT4 := Hid.mk4 (lat HT3.out b4)
  clear HS5 b4 R3 HT3 g3 hadd
  obtain ⟨a, ha, haN⟩ : ∃ a : Nat, fr % (N : Int) = (a : Int) ∧ a < N := ⟨(fr % (N : Int)).toNat, by have := Int.emod_nonneg fr (show (N : Int) ≠ 0 by omega); omega, by have := Int.emod_lt_of_pos fr (show (0 : Int) < N by omega); have := Int.emod_nonneg fr (show (N : Int) ≠ 0 by omega); omega⟩
  have hX : ∃ X Y : ByteArray, (⟨#[97, 98, 99, 100]⟩ : ByteArray).extract 0 k = X ∧ (⟨#[97, 98, 99, 100, 101]⟩ : ByteArray).extract 0 (k + 1) = Y ∧ X.size = k ∧ Y.size = k + 1 ∧ Asc X.data.toList ∧ Asc Y.data.toList := by
    refine ⟨_, _, rfl, rfl, ?_⟩
    rcases (show k = 0 ∨ k = 1 ∨ k = 2 ∨ k = 3 by omega) with rfl | rfl | rfl | rfl <;> exact ⟨by decide +kernel, by decide +kernel, by unfold Asc; decide +kernel, by unfold Asc; decide +kernel⟩
  obtain ⟨X, Y, hX, hY, hXz, hYz, aX, aY⟩ := hX
  have hNk := HNk.out
  have hRl : (List.replicate N (0 : UInt8)).length = N := List.length_replicate
  have HR1 := Hid.mk4 (rep_asc tb HTAB.out a a X R4.out HAR.out aX (by omega) (Nat.le_refl _) (by omega) (by omega) (by omega) HT4.out)
  have HR2 : Hid (∀ W, Below w4.heap.size w4 W → Calls Tryd.prog 15 #[.pointer (some ⟨g, 0, none⟩), .int .i64 (a : Nat), .int .i64 (a : Nat), .string Y] W fun e w' => e = .returned (.tuple #[.pointer none, .int .i64 13]) ∧ Below W.heap.size W w') := fun W hW => rep_asc_long tb HTAB.out a a Y (R4.out.later hW) HAR.out aY (by omega) (Nat.le_refl _) (by omega) (by omega) (by omega) (lat HT4.out hW)
  have HR3 : Hid (∀ W, Below w4.heap.size w4 W → Calls Tryd.prog 15 #[.pointer (some ⟨g, 0, none⟩), .int .i64 (a : Nat), .int .i64 ((a : Int) + 1), .string Y] W fun e w' => ∃ g' T', e = .returned (.tuple #[.pointer (some ⟨g', 0, none⟩), .int .i64 0]) ∧ RpA (weakE tb) w' (.pointer (some ⟨g', 0, none⟩)) T' ∧ T'.length = 20000 ∧ Below W.heap.size W w') := fun W hW => by
    refine (rep_asc tb HTAB.out a (a + 1) Y (R4.out.later hW) HAR.out aY (by omega) (by omega) (by omega) (by omega) (by omega) (lat HT4.out hW)).mono ?_
    rintro e w' ⟨g', T', he, hr, _, hl, hb⟩
    exact ⟨g', T', he, hr, by omega, hb⟩
  have hXk : (List.replicate N (0 : UInt8)).length - (a - a) + X.size = 20000 := by omega
  rw [hXk] at HR1
  clear hNk hXk hRl hXz hYz aX aY HAR
  go_wp2_with fail
  refine HR1.out.mono ?_
  rintro e w5 ⟨g5, T5, rfl, hr5, _, hl5, b5⟩
  have S5' := Hid.mk4 hr5
  have HL5 := Hid.mk4 hl5
  have q5 := b5
  have k5 := g4.trans (b5.mono g4.size)
  clear HR1 hr5 hl5 b5
  go_wp2_with fail
  refine (HR2.out _ q5).mono ?_
  rintro e w6 ⟨rfl, b6⟩
  have q6 := q5.trans (b6.mono q5.size)
  have k6 := k5.trans (b6.mono k5.size)
  have A6 := Hid.mk4 (S5'.out.later b6)
  clear HR2 b6 S5' q5 k5
  go_wp2_with fail
  refine (HR3.out _ q6).mono ?_
  rintro e w7 ⟨g7, T7, rfl, hr7, hl7, b7⟩
  have k7 := k6.trans (b7.mono k6.size)
  have A7 := Hid.mk4 (A6.out.later b7)
  have B7 := Hid.mk4 hr7
  have HL7 := Hid.mk4 hl7
  clear HR3 b7 A6 q6 k6 hr7 hl7
  have HCC : Hid (Calls Tryd.prog 13 #[.pointer (some ⟨g5, 0, none⟩), .pointer (some ⟨g5, 0, none⟩)] w7 fun e w' => e = .returned (.tuple #[.pointer none, .int .i64 13]) ∧ Below w7.heap.size w7 w') := concat_long (weakE tb) A7.out A7.out (by rw [HL5.out]; decide) (by rw [HL5.out]; decide) (by rw [HL5.out]; decide)
  go_wp2_with fail
  refine HCC.out.mono ?_
  rintro e w8 ⟨rfl, b8⟩
  have k8 := k7.trans (b8.mono k7.size)
  have A8 := Hid.mk4 (A7.out.later b8)
  have B8 := Hid.mk4 (B7.out.later b8)
  clear HCC b8 A7 B7 k7
  have L1 : Hid (Calls Tryd.prog 20 #[.pointer (some ⟨g5, 0, none⟩)] w8 fun e w' => e = .returned (.int .i64 20000) ∧ Below w8.heap.size w8 w') := by
    have := rpa_len (weakE tb) A8.out (by rw [HL5.out]; decide)
    rw [HL5.out] at this
    exact this
  go_wp2_with fail
  refine L1.out.mono ?_
  rintro e w9 ⟨rfl, b9⟩
  have k9 := k8.trans (b9.mono k8.size)
  have A9 := Hid.mk4 (A8.out.later b9)
  have L2 : Hid (Calls Tryd.prog 20 #[.pointer (some ⟨g7, 0, none⟩)] w9 fun e w' => e = .returned (.int .i64 20000) ∧ Below w9.heap.size w9 w') := by
    have := rpa_len (weakE tb) (B8.out.later b9) (by rw [HL7.out]; decide)
    rw [HL7.out] at this
    exact this
  clear L1 b9 A8 B8 k8
  go_wp2_with fail
  refine L2.out.mono ?_
  rintro e w10 ⟨rfl, b10⟩
  have k10 := k9.trans (b10.mono k9.size)
  have HCH : Hid (Calls Tryd.prog 21 #[.pointer (some ⟨g5, 0, none⟩)] w10 fun e w' => ∃ b m cap, e = .returned (.slice (some ⟨b, 0, none⟩) m cap) ∧ m ≤ 1252 ∧ Below w10.heap.size w10 w') := by
    have := rpa_chunks (weakE tb) (A9.out.later b10) (by rw [HL5.out]; decide)
    rw [HL5.out] at this
    exact this
  clear L2 b10 A9 k9
  go_wp2_with fail
  refine HCH.out.mono ?_
  rintro e w11 ⟨b, m, cap, rfl, hm, b11⟩
  have k11 := k10.trans (b11.mono k10.size)
  have hmi : decide ((m : Int) ≤ 1252) = true := decide_eq_true (by omega)
  clear HCH b11 k10
  go_wp2
  go_ret
  exact ⟨rfl, k11⟩
end Go.Proofs.YtfgefdkkjfjjjaaDoor
