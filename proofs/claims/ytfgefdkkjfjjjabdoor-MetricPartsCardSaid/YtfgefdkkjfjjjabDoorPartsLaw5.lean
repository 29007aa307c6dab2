/- MetricParts, walked. -/
import Derived.Test.YtfgefdkkjfjjjabDoorMetF
namespace Go.Proofs.YtfgefdkkjfjjjabDoor
open Go.RowKit Go.Sort
set_option linter.unusedSimpArgs false
set_option linter.unusedVariables false

set_option maxHeartbeats 8000000 in
set_option maxRecDepth 100000 in
theorem mparts_any (s : ByteArray) (at0 kind : Int) (hat : 0 ≤ at0 ∧ at0 ≤ 65535) (hkd : 0 ≤ kind ∧ kind ≤ 255) (hs : s.size ≤ maxLen) (w : World) (tb : Nat × Nat) (hT : Tabs w tb) :
    Calls Tryd.prog 5 #[.string s, .int .u16 at0, .int .u8 kind] w fun e w' => e = .returned (.bool true) ∧ Below w.heap.size w w' := by
  have HK := Hid.mk4 (known5_any tb w hT)
  by_cases hlong : 300 < s.size
  · have t1 : (300 : Int) < (s.size : Int) := by omega
    clear hlong
    go_enter Tryd.func5, Tryd.ntmps5
    go_wp2_with fail
    refine HK.out.mono ?_
    rintro e w1 ⟨rfl, b1⟩
    clear HK
    go_wp2
    go_ret
    exact ⟨rfl, b1⟩
  have t1 : decide ((300 : Int) < (s.size : Int)) = false := by simp; omega
  have t2 : decide (300 < s.size) = false := by simp; omega
  have HN : Hid (∀ W, Tabs W tb → Calls Tryd.prog 8 #[.string s] W fun e w' => ∃ g, e = .returned (.tuple #[.pointer (some ⟨g, 0, none⟩), .int .i64 0]) ∧ RpA (strongE tb) w' (.pointer (some ⟨g, 0, none⟩)) (cln s.data.toList) ∧ Below W.heap.size W w') := fun W hW => new_short tb s W (by omega) hW
  have hl := cln_length s.data.toList
  rw [bytes_length] at hl
  obtain ⟨T, hTe⟩ : ∃ T, T = cln s.data.toList := ⟨_, rfl⟩
  have hv : vld T = true := by rw [hTe]; exact cln_valid _
  rw [← hTe] at HN hl
  have hz : T.length ≤ 1200 := by omega
  have HT := Hid.mk4 hT
  clear hT hTe hl hlong
  obtain ⟨k, hk, hk3⟩ : ∃ k : Nat, kind % 4 = (k : Int) ∧ k ≤ 3 := ⟨(kind % 4).toNat, by omega, by omega⟩
  obtain ⟨p, hp, hpz⟩ : ∃ p : Nat, at0 % ((T.length : Int) + 1) = (p : Int) ∧ p ≤ T.length := ⟨(at0 % ((T.length : Int) + 1)).toNat, by have := Int.emod_nonneg at0 (show ((T.length : Int) + 1) ≠ 0 by omega); omega, by have := Int.emod_lt_of_pos at0 (show (0 : Int) < (T.length : Int) + 1 by omega); omega⟩
  have HL : Hid (∀ W g, RpA (strongE tb) W (.pointer (some ⟨g, 0, none⟩)) T → Calls Tryd.prog 14 #[.pointer (some ⟨g, 0, none⟩)] W fun e w' => e = .returned (.int .i64 (T.length : Nat)) ∧ Below W.heap.size W w') := fun W g hg => rpa_len (strongE tb) hg (by omega)
  have HE : Hid (∀ W g, RpA (strongE tb) W (.pointer (some ⟨g, 0, none⟩)) T → Tabs W tb → Calls Tryd.prog 13 #[.pointer (some ⟨g, 0, none⟩), .int .i64 (p : Nat)] W fun e w' => e = .returned (.bool (vld (T.take p))) ∧ Below W.heap.size W w') := fun W g hg hW => rpa_edge (strongE tb) tb (strong_tab tb) p hg (by omega) hpz hW
  have HF : Hid (∀ W g, RpA (strongE tb) W (.pointer (some ⟨g, 0, none⟩)) T → Tabs W tb → Calls Tryd.prog 18 #[.pointer (some ⟨g, 0, none⟩), .int .i64 (k : Nat), .int .i64 (p : Nat)] W fun e w' => e = .returned (.tuple #[.int .i64 (frB (tx T) k p), .int .i64 (frE (tx T) k p)]) ∧ Below W.heap.size W w') := fun W g hg hW => mfrom_any tb k p hg (by omega) hW
  have hfr := fr_cases hv (k := (k : Int)) (knd (by omega)) (p : Nat)
  cases hvp : vld (T.take p) with
  | false =>
    rw [hvp] at HE
    have hfr2 : frB (tx T) k p = 0 ∧ frE (tx T) k p = 11 := by
      rcases hfr with ⟨h, _, _⟩ | ⟨m, e, _, ⟨h, _, _⟩ | ⟨_, h1, h2⟩⟩
      · omega
      · obtain rfl : m = p := by omega
        rw [hvp] at h; cases h
      · exact ⟨h1, h2⟩
    rw [hfr2.1, hfr2.2] at HF
    have HS1 : Hid (∀ W g, RpA (strongE tb) W (.pointer (some ⟨g, 0, none⟩)) T → Tabs W tb → Calls Tryd.prog 10 #[.pointer (some ⟨g, 0, none⟩), .int .i64 0, .int .i64 (p : Nat)] W fun e w' => e = .returned (.tuple #[.pointer none, .int .i64 11]) ∧ Below W.heap.size W w') := fun W g hg hW => by
      have := rpa_check (strongE tb) tb (strong_tab tb) 0 p hg (by omega) (Nat.zero_le _) hpz hW
      rw [hvp, Bool.and_false] at this
      exact msli_bad _ 0 p 11 W (by decide) this
    have HS2 : Hid (∀ W g, RpA (strongE tb) W (.pointer (some ⟨g, 0, none⟩)) T → Tabs W tb → Calls Tryd.prog 10 #[.pointer (some ⟨g, 0, none⟩), .int .i64 (p : Nat), .int .i64 (T.length : Nat)] W fun e w' => e = .returned (.tuple #[.pointer none, .int .i64 11]) ∧ Below W.heap.size W w') := fun W g hg hW => by
      have := rpa_check (strongE tb) tb (strong_tab tb) p T.length hg (by omega) hpz (Nat.le_refl _) hW
      rw [hvp, Bool.false_and] at this
      exact msli_bad _ p T.length 11 W (by decide) this
    clear hfr hfr2 hvp hv
    go_enter Tryd.func5, Tryd.ntmps5
    go_wp2_with fail
    refine HK.out.mono ?_
    rintro e w1 ⟨rfl, b1⟩
    have T1 := Hid.mk4 (HT.out.later b1)
    clear HK
    go_wp2_with fail
    refine (HN.out _ T1.out).mono ?_
    rintro e w2 ⟨g, rfl, hr, b2⟩
    have R2 := Hid.mk4 hr
    have T2 := Hid.mk4 (T1.out.later b2)
    have g2 := b1.trans (b2.mono b1.size)
    clear hr HN b1 b2 T1
    go_wp2_with fail
    refine (HL.out _ g R2.out).mono ?_
    rintro e w3 ⟨rfl, b3⟩
    have R3 := Hid.mk4 (R2.out.later b3)
    have T3 := Hid.mk4 (T2.out.later b3)
    have g3 := g2.trans (b3.mono g2.size)
    clear R2 T2 b3 g2
    go_wp2_with fail
    refine (HF.out _ g R3.out T3.out).mono ?_
    rintro e w4 ⟨rfl, b4⟩
    have R4 := Hid.mk4 (R3.out.later b4)
    have T4 := Hid.mk4 (T3.out.later b4)
    have g4 := g3.trans (b4.mono g3.size)
    clear R3 T3 b4 g3 HF
    go_wp2_with fail
    refine (HS1.out _ g R4.out T4.out).mono ?_
    rintro e w5 ⟨rfl, b5⟩
    have R5 := Hid.mk4 (R4.out.later b5)
    have T5 := Hid.mk4 (T4.out.later b5)
    have g5 := g4.trans (b5.mono g4.size)
    clear R4 T4 b5 g4 HS1
    go_wp2_with fail
    refine (HL.out _ g R5.out).mono ?_
    rintro e w6 ⟨rfl, b6⟩
    have R6 := Hid.mk4 (R5.out.later b6)
    have T6 := Hid.mk4 (T5.out.later b6)
    have g6 := g5.trans (b6.mono g5.size)
    clear R5 T5 b6 g5 HL
    go_wp2_with fail
    refine (HS2.out _ g R6.out T6.out).mono ?_
    rintro e w7 ⟨rfl, b7⟩
    have R7 := Hid.mk4 (R6.out.later b7)
    have T7 := Hid.mk4 (T6.out.later b7)
    have g7 := g6.trans (b7.mono g6.size)
    clear R6 T6 b7 g6 HS2
    go_wp2_with fail
    refine (HE.out _ g R7.out T7.out).mono ?_
    rintro e w8 ⟨rfl, b8⟩
    have g8 := g7.trans (b8.mono g7.size)
    clear R7 T7 b8 g7 HE
    go_wp2
    go_ret
    exact ⟨rfl, g8⟩
  | true =>
    rw [hvp] at HE
    have hfr2 : frB (tx T) k p = kT k (T.take p) ∧ frE (tx T) k p = 0 := by
      rcases hfr with ⟨h, _, _⟩ | ⟨m, e, _, ⟨_, h1, h2⟩ | ⟨h, _, _⟩⟩
      · omega
      · obtain rfl : m = p := by omega
        exact ⟨h1, h2⟩
      · obtain rfl : m = p := by omega
        rw [hvp] at h; cases h
    rw [hfr2.1, hfr2.2] at HF
    have HS1 : Hid (∀ W g, RpA (strongE tb) W (.pointer (some ⟨g, 0, none⟩)) T → Tabs W tb → Calls Tryd.prog 10 #[.pointer (some ⟨g, 0, none⟩), .int .i64 0, .int .i64 (p : Nat)] W fun e w' => ∃ g', e = .returned (.tuple #[.pointer (some ⟨g', 0, none⟩), .int .i64 0]) ∧ RpA (strongE tb) w' (.pointer (some ⟨g', 0, none⟩)) (T.take p) ∧ Below W.heap.size W w') := fun W g hg hW => by
      have := msli_ok (strongE tb) tb (strong_tab tb) _ T 0 p W hg (by omega) (Nat.zero_le _) hpz (by rw [List.take_zero]; rfl) hvp (strong_Dt tb (by rw [List.length_take]; omega)) (strong_Dt tb (by rw [List.length_drop, List.length_take]; omega)) hW
      refine this.mono ?_
      rintro e w' ⟨r', he, hr', hb⟩
      obtain ⟨g', rfl⟩ := hr'.ptr
      rw [List.drop_zero] at hr'
      exact ⟨g', he, hr', hb⟩
    have HS2 : Hid (∀ W g, RpA (strongE tb) W (.pointer (some ⟨g, 0, none⟩)) T → Tabs W tb → Calls Tryd.prog 10 #[.pointer (some ⟨g, 0, none⟩), .int .i64 (p : Nat), .int .i64 (T.length : Nat)] W fun e w' => ∃ g', e = .returned (.tuple #[.pointer (some ⟨g', 0, none⟩), .int .i64 0]) ∧ RpA (strongE tb) w' (.pointer (some ⟨g', 0, none⟩)) (T.drop p) ∧ Below W.heap.size W w') := fun W g hg hW => by
      have := msli_ok (strongE tb) tb (strong_tab tb) _ T p T.length W hg (by omega) hpz (Nat.le_refl _) hvp (by rw [List.take_length]; exact hv) (strong_Dt tb (by rw [List.length_take]; omega)) (strong_Dt tb (by rw [List.length_drop, List.length_take]; omega)) hW
      refine this.mono ?_
      rintro e w' ⟨r', he, hr', hb⟩
      obtain ⟨g', rfl⟩ := hr'.ptr
      rw [List.take_length] at hr'
      exact ⟨g', he, hr', hb⟩
    have HW : Hid (∀ W g (X : List UInt8), RpA (strongE tb) W (.pointer (some ⟨g, 0, none⟩)) X → X.length ≤ 20000 → Tabs W tb → Calls Tryd.prog 16 #[.pointer (some ⟨g, 0, none⟩), .int .i64 (k : Nat)] W fun e w' => e = .returned (.int .i64 (kT k X)) ∧ Below W.heap.size W w') := fun W g X hg hX hW => mwhole_any tb k (Or.inr hg) hX hW
    have hlA : (T.take p).length ≤ 20000 := by rw [List.length_take]; omega
    have hlB : (T.drop p).length ≤ 20000 := by rw [List.length_drop]; omega
    have esum : kT k (T.take p) + kT k (T.drop p) = kT k T := by rw [← kT_append hvp, List.take_append_drop]
    have q1 := kT_le (T.take p) k
    have q2 := kT_le (T.drop p) k
    have q3 := kT_nonneg k (T.take p)
    have q4 := kT_nonneg k (T.drop p)
    have HX1 : Hid (∀ W g, RpA (strongE tb) W (.pointer (some ⟨g, 0, none⟩)) (T.take p) → Tabs W tb → Calls Tryd.prog 16 #[.pointer (some ⟨g, 0, none⟩), .int .i64 (k : Nat)] W fun e w' => e = .returned (.int .i64 (kT k (T.take p))) ∧ Below W.heap.size W w') := fun W g hg hW => HW.out W g _ hg hlA hW
    have HX2 : Hid (∀ W g, RpA (strongE tb) W (.pointer (some ⟨g, 0, none⟩)) (T.drop p) → Tabs W tb → Calls Tryd.prog 16 #[.pointer (some ⟨g, 0, none⟩), .int .i64 (k : Nat)] W fun e w' => e = .returned (.int .i64 (kT k (T.drop p))) ∧ Below W.heap.size W w') := fun W g hg hW => HW.out W g _ hg hlB hW
    have HX3 : Hid (∀ W g, RpA (strongE tb) W (.pointer (some ⟨g, 0, none⟩)) T → Tabs W tb → Calls Tryd.prog 16 #[.pointer (some ⟨g, 0, none⟩), .int .i64 (k : Nat)] W fun e w' => e = .returned (.int .i64 (kT k (T.take p) + kT k (T.drop p))) ∧ Below W.heap.size W w') := fun W g hg hW => by rw [esum]; exact HW.out W g _ hg (by omega) hW
    clear hfr hfr2 hvp hv esum HW
    have q5 : kT k (T.take p) ≤ 80000 := by omega
    have q6 : kT k (T.drop p) ≤ 80000 := by omega
    clear q1 q2 hlA hlB
    generalize kT k (T.take p) = kA at *
    generalize kT k (T.drop p) = kB0 at *
    go_enter Tryd.func5, Tryd.ntmps5
    go_wp2_with fail
    refine HK.out.mono ?_
    rintro e w1 ⟨rfl, b1⟩
    have T1 := Hid.mk4 (HT.out.later b1)
    clear HK
    go_wp2_with fail
    refine (HN.out _ T1.out).mono ?_
    rintro e w2 ⟨g, rfl, hr, b2⟩
    have R2 := Hid.mk4 hr
    have T2 := Hid.mk4 (T1.out.later b2)
    have g2 := b1.trans (b2.mono b1.size)
    clear hr HN b1 b2 T1
    go_wp2_with fail
    refine (HL.out _ g R2.out).mono ?_
    rintro e w3 ⟨rfl, b3⟩
    have R3 := Hid.mk4 (R2.out.later b3)
    have T3 := Hid.mk4 (T2.out.later b3)
    have g3 := g2.trans (b3.mono g2.size)
    clear R2 T2 b3 g2
    go_wp2_with fail
    refine (HF.out _ g R3.out T3.out).mono ?_
    rintro e w4 ⟨rfl, b4⟩
    have R4 := Hid.mk4 (R3.out.later b4)
    have T4 := Hid.mk4 (T3.out.later b4)
    have g4 := g3.trans (b4.mono g3.size)
    clear R3 T3 b4 g3 HF
    go_wp2_with fail
    refine (HS1.out _ g R4.out T4.out).mono ?_
    rintro e w5 ⟨ga, rfl, hra, b5⟩
    have RA5 := Hid.mk4 hra
    have R5 := Hid.mk4 (R4.out.later b5)
    have T5 := Hid.mk4 (T4.out.later b5)
    have g5 := g4.trans (b5.mono g4.size)
    clear R4 T4 b5 g4 HS1 hra
    go_wp2_with fail
    refine (HL.out _ g R5.out).mono ?_
    rintro e w6 ⟨rfl, b6⟩
    have RA6 := Hid.mk4 (RA5.out.later b6)
    have R6 := Hid.mk4 (R5.out.later b6)
    have T6 := Hid.mk4 (T5.out.later b6)
    have g6 := g5.trans (b6.mono g5.size)
    clear RA5 R5 T5 b6 g5 HL
    go_wp2_with fail
    refine (HS2.out _ g R6.out T6.out).mono ?_
    rintro e w7 ⟨gb, rfl, hrb, b7⟩
    have RB7 := Hid.mk4 hrb
    have RA7 := Hid.mk4 (RA6.out.later b7)
    have R7 := Hid.mk4 (R6.out.later b7)
    have T7 := Hid.mk4 (T6.out.later b7)
    have g7 := g6.trans (b7.mono g6.size)
    clear RA6 R6 T6 b7 g6 HS2 hrb
    go_wp2_with fail
    refine (HE.out _ g R7.out T7.out).mono ?_
    rintro e w8 ⟨rfl, b8⟩
    have RB8 := Hid.mk4 (RB7.out.later b8)
    have RA8 := Hid.mk4 (RA7.out.later b8)
    have R8 := Hid.mk4 (R7.out.later b8)
    have T8 := Hid.mk4 (T7.out.later b8)
    have g8 := g7.trans (b8.mono g7.size)
    clear RB7 RA7 R7 T7 b8 g7 HE
    go_wp2_with fail
    refine (HX1.out _ ga RA8.out T8.out).mono ?_
    rintro e w9 ⟨rfl, b9⟩
    have RB9 := Hid.mk4 (RB8.out.later b9)
    have RA9 := Hid.mk4 (RA8.out.later b9)
    have R9 := Hid.mk4 (R8.out.later b9)
    have T9 := Hid.mk4 (T8.out.later b9)
    have g9 := g8.trans (b9.mono g8.size)
    clear RB8 RA8 R8 T8 b9 g8
    go_wp2_with fail
    refine (HX1.out _ ga RA9.out T9.out).mono ?_
    rintro e w10 ⟨rfl, b10⟩
    have RB10 := Hid.mk4 (RB9.out.later b10)
    have R10 := Hid.mk4 (R9.out.later b10)
    have T10 := Hid.mk4 (T9.out.later b10)
    have g10 := g9.trans (b10.mono g9.size)
    clear RB9 RA9 R9 T9 b10 g9 HX1
    go_wp2_with fail
    refine (HX2.out _ gb RB10.out T10.out).mono ?_
    rintro e w11 ⟨rfl, b11⟩
    have R11 := Hid.mk4 (R10.out.later b11)
    have T11 := Hid.mk4 (T10.out.later b11)
    have g11 := g10.trans (b11.mono g10.size)
    clear RB10 R10 T10 b11 g10 HX2
    go_wp2_with fail
    refine (HX3.out _ g R11.out T11.out).mono ?_
    rintro e w12 ⟨rfl, b12⟩
    have g12 := g11.trans (b12.mono g11.size)
    clear R11 T11 b12 g11 HX3
    go_wp2
    go_ret
    exact ⟨rfl, g12⟩
end Go.Proofs.YtfgefdkkjfjjjabDoor
