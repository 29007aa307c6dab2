/- MetricNone, walked. -/
import Derived.Test.YtfgefdkkjfjjjabDoorMetF
namespace Go.Proofs.YtfgefdkkjfjjjabDoor
open Go.RowKit Go.Sort
set_option linter.unusedSimpArgs false
set_option linter.unusedVariables false

set_option maxHeartbeats 8000000 in
set_option maxRecDepth 100000 in
theorem mnone_any (s : ByteArray) (kind n : Int) (hn : -9223372036854775808 ≤ n ∧ n ≤ 9223372036854775807) (hs : s.size ≤ maxLen) (w : World) (tb : Nat × Nat) (hT : Tabs w tb) :
    Calls Tryd.prog 6 #[.string s, .int .i64 kind, .int .i64 n] w fun e w' => e = .returned (.bool true) ∧ Below w.heap.size w w' := by
  have HK := Hid.mk4 (known5_any tb w hT)
  by_cases hlong : 200 < s.size
  · have t1 : (200 : Int) < (s.size : Int) := by omega
    clear hlong
    go_enter Tryd.func6, Tryd.ntmps6
    go_wp2_with fail
    refine HK.out.mono ?_
    rintro e w1 ⟨rfl, b1⟩
    clear HK
    go_wp2
    go_ret
    exact ⟨rfl, b1⟩
  have t1 : decide ((200 : Int) < (s.size : Int)) = false := by simp; omega
  have t2 : decide (200 < s.size) = false := by simp; omega
  have HN : Hid (∀ W, Tabs W tb → Calls Tryd.prog 8 #[.string s] W fun e w' => ∃ g, e = .returned (.tuple #[.pointer (some ⟨g, 0, none⟩), .int .i64 0]) ∧ RpA (strongE tb) w' (.pointer (some ⟨g, 0, none⟩)) (cln s.data.toList) ∧ Below W.heap.size W w') := fun W hW => new_short tb s W (by omega) hW
  have hl := cln_length s.data.toList
  rw [bytes_length] at hl
  obtain ⟨T, hTe⟩ : ∃ T, T = cln s.data.toList := ⟨_, rfl⟩
  have hv : vld T = true := by rw [hTe]; exact cln_valid _
  rw [← hTe] at HN hl
  have hz : T.length ≤ 800 := by omega
  have HT := Hid.mk4 hT
  clear hT hTe hl hlong
  obtain ⟨fE, hfE⟩ : ∃ x, x = cvE T kind 0 n := ⟨_, rfl⟩
  obtain ⟨gE, hgE⟩ : ∃ x, x = cvE T 0 kind n := ⟨_, rfl⟩
  obtain ⟨fB, hfB⟩ : ∃ x, x = cvB T kind 0 n := ⟨_, rfl⟩
  obtain ⟨gB, hgB⟩ : ∃ x, x = cvB T 0 kind n := ⟨_, rfl⟩
  have HC1 : Hid (∀ W g, RpA (strongE tb) W (.pointer (some ⟨g, 0, none⟩)) T → Tabs W tb → Calls Tryd.prog 17 #[.pointer (some ⟨g, 0, none⟩), .int .i64 kind, .int .i64 0, .int .i64 n] W fun e w' => e = .returned (.tuple #[.int .i64 fB, .int .i64 fE]) ∧ Below W.heap.size W w') := fun W g hg hW => by
    rw [hfE, hfB]
    exact mconv_any tb kind 0 n hg (by omega) hn hW
  have HC2 : Hid (∀ W g, RpA (strongE tb) W (.pointer (some ⟨g, 0, none⟩)) T → Tabs W tb → Calls Tryd.prog 17 #[.pointer (some ⟨g, 0, none⟩), .int .i64 0, .int .i64 kind, .int .i64 n] W fun e w' => e = .returned (.tuple #[.int .i64 gB, .int .i64 gE]) ∧ Below W.heap.size W w') := fun W g hg hW => by
    rw [hgE, hgB]
    exact mconv_any tb 0 kind n hg (by omega) hn hW
  have HWH : Hid (∀ W g, RpA (strongE tb) W (.pointer (some ⟨g, 0, none⟩)) T → Tabs W tb → Calls Tryd.prog 16 #[.pointer (some ⟨g, 0, none⟩), .int .i64 kind] W fun e w' => e = .returned (.int .i64 (kT kind T)) ∧ Below W.heap.size W w') := fun W g hg hW => mwhole_any tb kind (Or.inr hg) (by omega) hW
  have HL : Hid (∀ W g, RpA (strongE tb) W (.pointer (some ⟨g, 0, none⟩)) T → Calls Tryd.prog 14 #[.pointer (some ⟨g, 0, none⟩)] W fun e w' => e = .returned (.int .i64 (T.length : Nat)) ∧ Below W.heap.size W w') := fun W g hg => rpa_len (strongE tb) hg (by omega)
  have hcase : (kind < 0 ∧ fE = 12 ∧ gE = 12 ∧ kT kind T = 0) ∨ (¬ kind < 0 ∧ 3 < kind ∧ fE = 12 ∧ gE = 12 ∧ kT kind T = 0) ∨
      (¬ kind < 0 ∧ ¬ 3 < kind ∧ n < 0 ∧ fE = 10 ∧ gE = 10) ∨
      (¬ kind < 0 ∧ ¬ 3 < kind ∧ ¬ n < 0 ∧ kT kind T < n ∧ fE = 10 ∧ n ≤ (T.length : Int)) ∨
      (¬ kind < 0 ∧ ¬ 3 < kind ∧ ¬ n < 0 ∧ kT kind T < n ∧ fE = 10 ∧ ¬ n ≤ (T.length : Int) ∧ gE = 10) ∨
      (¬ kind < 0 ∧ ¬ 3 < kind ∧ ¬ n < 0 ∧ ¬ kT kind T < n ∧ fE = 0) ∨ (¬ kind < 0 ∧ ¬ 3 < kind ∧ ¬ n < 0 ∧ ¬ kT kind T < n ∧ fE = 11) ∨ (¬ kind < 0 ∧ ¬ 3 < kind ∧ ¬ n < 0 ∧ ¬ kT kind T < n ∧ fE = 50) := by
    by_cases h0 : kind < 0
    · exact Or.inl ⟨h0, by rw [hfE, (cv_none (Or.inl (by omega)) n).1], by rw [hgE, (cv_none (Or.inr (by omega)) n).1], kT_none (Or.inl h0) T⟩
    · by_cases h3 : 3 < kind
      · exact Or.inr (Or.inl ⟨h0, h3, by rw [hfE, (cv_none (Or.inl (by omega)) n).1], by rw [hgE, (cv_none (Or.inr (by omega)) n).1], kT_none (Or.inr h3) T⟩)
      · have hk : 0 ≤ kind ∧ kind ≤ 3 := by omega
        rw [cv_known hv hk (by omega)] at hfE
        rw [cv_known hv (by omega) hk] at hgE
        have e0 := kT_zero hv
        have hf := to_vals hv hk n
        have hg := to_vals hv (show (0 : Int) ≤ 0 ∧ (0 : Int) ≤ 3 by omega) n
        rw [← hfE] at hf
        rw [← hgE, e0] at hg
        have hp := kT_nonneg kind T
        by_cases hn0 : n < 0
        · refine Or.inr (Or.inr (Or.inl ⟨h0, h3, hn0, ?_, ?_⟩))
          · rcases hf with hf | hf
            · exact hf.2
            · exact absurd (Or.inl hn0) hf.1
          · rcases hg with hg | hg
            · exact hg.2
            · exact absurd (Or.inl hn0) hg.1
        · by_cases hnk : kT kind T < n
          · have hf10 : fE = 10 := by
              rcases hf with hf | hf
              · exact hf.2
              · exact absurd (Or.inr hnk) hf.1
            by_cases hnl : n ≤ (T.length : Int)
            · exact Or.inr (Or.inr (Or.inr (Or.inl ⟨h0, h3, hn0, hnk, hf10, hnl⟩)))
            · refine Or.inr (Or.inr (Or.inr (Or.inr (Or.inl ⟨h0, h3, hn0, hnk, hf10, hnl, ?_⟩))))
              rcases hg with hg | hg
              · exact hg.2
              · exact absurd (Or.inr (by omega)) hg.1
          · have hf3 : fE = 0 ∨ fE = 11 ∨ fE = 50 := by
              rcases hf with hf | hf
              · rcases hf.1 with h | h
                · exact absurd h hn0
                · exact absurd h hnk
              · exact hf.2
            rcases hf3 with h | h | h
            · exact Or.inr (Or.inr (Or.inr (Or.inr (Or.inr (Or.inl ⟨h0, h3, hn0, hnk, h⟩)))))
            · exact Or.inr (Or.inr (Or.inr (Or.inr (Or.inr (Or.inr (Or.inl ⟨h0, h3, hn0, hnk, h⟩))))))
            · exact Or.inr (Or.inr (Or.inr (Or.inr (Or.inr (Or.inr (Or.inr ⟨h0, h3, hn0, hnk, h⟩))))))
  clear hfE hgE hfB hgB
  have HZ := Hid.mk4 hz
  generalize kT kind T = kk at *
  rcases hcase with ⟨h0, rfl, rfl, rfl⟩ | ⟨h0, h3, rfl, rfl, rfl⟩ | ⟨h0, h3, h4, rfl, rfl⟩ | ⟨h0, h3, h4, h5, rfl, h6⟩ | ⟨h0, h3, h4, h5, rfl, h6, rfl⟩ | ⟨h0, h3, h4, h5, rfl⟩ | ⟨h0, h3, h4, h5, rfl⟩ | ⟨h0, h3, h4, h5, rfl⟩
  · go_enter Tryd.func6, Tryd.ntmps6
    go_wp2_with fail
    refine HK.out.mono ?_
    rintro e w1 ⟨rfl, b1⟩
    have T1 := Hid.mk4 (HT.out.later b1)
    clear HK
    go_wp2_with fail
    refine (HN.out _ T1.out).mono ?_
    rintro e w2 ⟨g, rfl, hr, b2⟩
    have R2 := Hid.mk4 hr
    have T2 := Hid.mk4 (T1.out.later b2)
    have g2 := b1.trans (b2.mono b1.size)
    clear hr HN b1 b2 T1
    go_wp2_with fail
    refine (HC1.out _ g R2.out T2.out).mono ?_
    rintro e w3 ⟨rfl, b3⟩
    have R3 := Hid.mk4 (R2.out.later b3)
    have T3 := Hid.mk4 (T2.out.later b3)
    have g3 := g2.trans (b3.mono g2.size)
    clear R2 T2 b3 g2 HC1
    go_wp2_with fail
    refine (HC2.out _ g R3.out T3.out).mono ?_
    rintro e w4 ⟨rfl, b4⟩
    have R4 := Hid.mk4 (R3.out.later b4)
    have T4 := Hid.mk4 (T3.out.later b4)
    have g4 := g3.trans (b4.mono g3.size)
    clear R3 T3 b4 g3 HC2
    go_wp2_with fail
    refine (HWH.out _ g R4.out T4.out).mono ?_
    rintro e w5 ⟨rfl, b5⟩
    have R5 := Hid.mk4 (R4.out.later b5)
    have g5 := g4.trans (b5.mono g4.size)
    clear b5 g4 HWH
    have g6 := g5
    clear g5
    go_wp2
    go_ret
    exact ⟨rfl, g6⟩
  · have h0d : decide (kind < 0) = false := by simpa using h0
    go_enter Tryd.func6, Tryd.ntmps6
    go_wp2_with fail
    refine HK.out.mono ?_
    rintro e w1 ⟨rfl, b1⟩
    have T1 := Hid.mk4 (HT.out.later b1)
    clear HK
    go_wp2_with fail
    refine (HN.out _ T1.out).mono ?_
    rintro e w2 ⟨g, rfl, hr, b2⟩
    have R2 := Hid.mk4 hr
    have T2 := Hid.mk4 (T1.out.later b2)
    have g2 := b1.trans (b2.mono b1.size)
    clear hr HN b1 b2 T1
    go_wp2_with fail
    refine (HC1.out _ g R2.out T2.out).mono ?_
    rintro e w3 ⟨rfl, b3⟩
    have R3 := Hid.mk4 (R2.out.later b3)
    have T3 := Hid.mk4 (T2.out.later b3)
    have g3 := g2.trans (b3.mono g2.size)
    clear R2 T2 b3 g2 HC1
    go_wp2_with fail
    refine (HC2.out _ g R3.out T3.out).mono ?_
    rintro e w4 ⟨rfl, b4⟩
    have R4 := Hid.mk4 (R3.out.later b4)
    have T4 := Hid.mk4 (T3.out.later b4)
    have g4 := g3.trans (b4.mono g3.size)
    clear R3 T3 b4 g3 HC2
    go_wp2_with fail
    refine (HWH.out _ g R4.out T4.out).mono ?_
    rintro e w5 ⟨rfl, b5⟩
    have R5 := Hid.mk4 (R4.out.later b5)
    have g5 := g4.trans (b5.mono g4.size)
    clear b5 g4 HWH
    have g6 := g5
    clear g5
    go_wp2
    go_ret
    exact ⟨rfl, g6⟩
  · have h0d : decide (kind < 0) = false := by simpa using h0
    have h3d : decide (3 < kind) = false := by simpa using h3
    have h7 : n ≤ (T.length : Int) := by omega
    have h8 : decide (n ≥ 0) = false := by simp; omega
    have h9 : decide (0 ≤ n) = false := by simp; omega
    go_enter Tryd.func6, Tryd.ntmps6
    go_wp2_with fail
    refine HK.out.mono ?_
    rintro e w1 ⟨rfl, b1⟩
    have T1 := Hid.mk4 (HT.out.later b1)
    clear HK
    go_wp2_with fail
    refine (HN.out _ T1.out).mono ?_
    rintro e w2 ⟨g, rfl, hr, b2⟩
    have R2 := Hid.mk4 hr
    have T2 := Hid.mk4 (T1.out.later b2)
    have g2 := b1.trans (b2.mono b1.size)
    clear hr HN b1 b2 T1
    go_wp2_with fail
    refine (HC1.out _ g R2.out T2.out).mono ?_
    rintro e w3 ⟨rfl, b3⟩
    have R3 := Hid.mk4 (R2.out.later b3)
    have T3 := Hid.mk4 (T2.out.later b3)
    have g3 := g2.trans (b3.mono g2.size)
    clear R2 T2 b3 g2 HC1
    go_wp2_with fail
    refine (HC2.out _ g R3.out T3.out).mono ?_
    rintro e w4 ⟨rfl, b4⟩
    have R4 := Hid.mk4 (R3.out.later b4)
    have T4 := Hid.mk4 (T3.out.later b4)
    have g4 := g3.trans (b4.mono g3.size)
    clear R3 T3 b4 g3 HC2
    have R5 := R4
    have g5 := g4
    clear g4
    go_wp2_with fail
    refine (HL.out _ g R5.out).mono ?_
    rintro e w6 ⟨rfl, b6⟩
    have g6 := g5.trans (b6.mono g5.size)
    clear b6 g5 HL
    go_wp2
    go_ret
    exact ⟨rfl, g6⟩
  · have h0d : decide (kind < 0) = false := by simpa using h0
    have h3d : decide (3 < kind) = false := by simpa using h3
    have h4d : decide (n < 0) = false := by simpa using h4
    have h8 : 0 ≤ n := by omega
    go_enter Tryd.func6, Tryd.ntmps6
    go_wp2_with fail
    refine HK.out.mono ?_
    rintro e w1 ⟨rfl, b1⟩
    have T1 := Hid.mk4 (HT.out.later b1)
    clear HK
    go_wp2_with fail
    refine (HN.out _ T1.out).mono ?_
    rintro e w2 ⟨g, rfl, hr, b2⟩
    have R2 := Hid.mk4 hr
    have T2 := Hid.mk4 (T1.out.later b2)
    have g2 := b1.trans (b2.mono b1.size)
    clear hr HN b1 b2 T1
    go_wp2_with fail
    refine (HC1.out _ g R2.out T2.out).mono ?_
    rintro e w3 ⟨rfl, b3⟩
    have R3 := Hid.mk4 (R2.out.later b3)
    have T3 := Hid.mk4 (T2.out.later b3)
    have g3 := g2.trans (b3.mono g2.size)
    clear R2 T2 b3 g2 HC1
    go_wp2_with fail
    refine (HC2.out _ g R3.out T3.out).mono ?_
    rintro e w4 ⟨rfl, b4⟩
    have R4 := Hid.mk4 (R3.out.later b4)
    have T4 := Hid.mk4 (T3.out.later b4)
    have g4 := g3.trans (b4.mono g3.size)
    clear R3 T3 b4 g3 HC2
    go_wp2_with fail
    refine (HWH.out _ g R4.out T4.out).mono ?_
    rintro e w5 ⟨rfl, b5⟩
    have R5 := Hid.mk4 (R4.out.later b5)
    have g5 := g4.trans (b5.mono g4.size)
    clear b5 g4 HWH
    go_wp2_with fail
    refine (HL.out _ g R5.out).mono ?_
    rintro e w6 ⟨rfl, b6⟩
    have g6 := g5.trans (b6.mono g5.size)
    clear b6 g5 HL
    go_wp2
    go_ret
    exact ⟨rfl, g6⟩
  · have h0d : decide (kind < 0) = false := by simpa using h0
    have h3d : decide (3 < kind) = false := by simpa using h3
    have h4d : decide (n < 0) = false := by simpa using h4
    have h8 : decide (n ≤ (T.length : Int)) = false := by simpa using h6
    go_enter Tryd.func6, Tryd.ntmps6
    go_wp2_with fail
    refine HK.out.mono ?_
    rintro e w1 ⟨rfl, b1⟩
    have T1 := Hid.mk4 (HT.out.later b1)
    clear HK
    go_wp2_with fail
    refine (HN.out _ T1.out).mono ?_
    rintro e w2 ⟨g, rfl, hr, b2⟩
    have R2 := Hid.mk4 hr
    have T2 := Hid.mk4 (T1.out.later b2)
    have g2 := b1.trans (b2.mono b1.size)
    clear hr HN b1 b2 T1
    go_wp2_with fail
    refine (HC1.out _ g R2.out T2.out).mono ?_
    rintro e w3 ⟨rfl, b3⟩
    have R3 := Hid.mk4 (R2.out.later b3)
    have T3 := Hid.mk4 (T2.out.later b3)
    have g3 := g2.trans (b3.mono g2.size)
    clear R2 T2 b3 g2 HC1
    go_wp2_with fail
    refine (HC2.out _ g R3.out T3.out).mono ?_
    rintro e w4 ⟨rfl, b4⟩
    have R4 := Hid.mk4 (R3.out.later b4)
    have T4 := Hid.mk4 (T3.out.later b4)
    have g4 := g3.trans (b4.mono g3.size)
    clear R3 T3 b4 g3 HC2
    go_wp2_with fail
    refine (HWH.out _ g R4.out T4.out).mono ?_
    rintro e w5 ⟨rfl, b5⟩
    have R5 := Hid.mk4 (R4.out.later b5)
    have g5 := g4.trans (b5.mono g4.size)
    clear b5 g4 HWH
    go_wp2_with fail
    refine (HL.out _ g R5.out).mono ?_
    rintro e w6 ⟨rfl, b6⟩
    have g6 := g5.trans (b6.mono g5.size)
    clear b6 g5 HL
    go_wp2
    go_ret
    exact ⟨rfl, g6⟩
  · have h0d : decide (kind < 0) = false := by simpa using h0
    have h3d : decide (3 < kind) = false := by simpa using h3
    have h4d : decide (n < 0) = false := by simpa using h4
    have h5d : decide (kk < n) = false := by simpa using h5
    go_enter Tryd.func6, Tryd.ntmps6
    go_wp2_with fail
    refine HK.out.mono ?_
    rintro e w1 ⟨rfl, b1⟩
    have T1 := Hid.mk4 (HT.out.later b1)
    clear HK
    go_wp2_with fail
    refine (HN.out _ T1.out).mono ?_
    rintro e w2 ⟨g, rfl, hr, b2⟩
    have R2 := Hid.mk4 hr
    have T2 := Hid.mk4 (T1.out.later b2)
    have g2 := b1.trans (b2.mono b1.size)
    clear hr HN b1 b2 T1
    go_wp2_with fail
    refine (HC1.out _ g R2.out T2.out).mono ?_
    rintro e w3 ⟨rfl, b3⟩
    have R3 := Hid.mk4 (R2.out.later b3)
    have T3 := Hid.mk4 (T2.out.later b3)
    have g3 := g2.trans (b3.mono g2.size)
    clear R2 T2 b3 g2 HC1
    go_wp2_with fail
    refine (HC2.out _ g R3.out T3.out).mono ?_
    rintro e w4 ⟨rfl, b4⟩
    have R4 := Hid.mk4 (R3.out.later b4)
    have T4 := Hid.mk4 (T3.out.later b4)
    have g4 := g3.trans (b4.mono g3.size)
    clear R3 T3 b4 g3 HC2
    go_wp2_with fail
    refine (HWH.out _ g R4.out T4.out).mono ?_
    rintro e w5 ⟨rfl, b5⟩
    have R5 := Hid.mk4 (R4.out.later b5)
    have g5 := g4.trans (b5.mono g4.size)
    clear b5 g4 HWH
    have g6 := g5
    clear g5
    go_wp2
    go_ret
    exact ⟨rfl, g6⟩
  · have h0d : decide (kind < 0) = false := by simpa using h0
    have h3d : decide (3 < kind) = false := by simpa using h3
    have h4d : decide (n < 0) = false := by simpa using h4
    have h5d : decide (kk < n) = false := by simpa using h5
    go_enter Tryd.func6, Tryd.ntmps6
    go_wp2_with fail
    refine HK.out.mono ?_
    rintro e w1 ⟨rfl, b1⟩
    have T1 := Hid.mk4 (HT.out.later b1)
    clear HK
    go_wp2_with fail
    refine (HN.out _ T1.out).mono ?_
    rintro e w2 ⟨g, rfl, hr, b2⟩
    have R2 := Hid.mk4 hr
    have T2 := Hid.mk4 (T1.out.later b2)
    have g2 := b1.trans (b2.mono b1.size)
    clear hr HN b1 b2 T1
    go_wp2_with fail
    refine (HC1.out _ g R2.out T2.out).mono ?_
    rintro e w3 ⟨rfl, b3⟩
    have R3 := Hid.mk4 (R2.out.later b3)
    have T3 := Hid.mk4 (T2.out.later b3)
    have g3 := g2.trans (b3.mono g2.size)
    clear R2 T2 b3 g2 HC1
    go_wp2_with fail
    refine (HC2.out _ g R3.out T3.out).mono ?_
    rintro e w4 ⟨rfl, b4⟩
    have R4 := Hid.mk4 (R3.out.later b4)
    have T4 := Hid.mk4 (T3.out.later b4)
    have g4 := g3.trans (b4.mono g3.size)
    clear R3 T3 b4 g3 HC2
    go_wp2_with fail
    refine (HWH.out _ g R4.out T4.out).mono ?_
    rintro e w5 ⟨rfl, b5⟩
    have R5 := Hid.mk4 (R4.out.later b5)
    have g5 := g4.trans (b5.mono g4.size)
    clear b5 g4 HWH
    have g6 := g5
    clear g5
    go_wp2
    go_ret
    exact ⟨rfl, g6⟩
  · have h0d : decide (kind < 0) = false := by simpa using h0
    have h3d : decide (3 < kind) = false := by simpa using h3
    have h4d : decide (n < 0) = false := by simpa using h4
    have h5d : decide (kk < n) = false := by simpa using h5
    go_enter Tryd.func6, Tryd.ntmps6
    go_wp2_with fail
    refine HK.out.mono ?_
    rintro e w1 ⟨rfl, b1⟩
    have T1 := Hid.mk4 (HT.out.later b1)
    clear HK
    go_wp2_with fail
    refine (HN.out _ T1.out).mono ?_
    rintro e w2 ⟨g, rfl, hr, b2⟩
    have R2 := Hid.mk4 hr
    have T2 := Hid.mk4 (T1.out.later b2)
    have g2 := b1.trans (b2.mono b1.size)
    clear hr HN b1 b2 T1
    go_wp2_with fail
    refine (HC1.out _ g R2.out T2.out).mono ?_
    rintro e w3 ⟨rfl, b3⟩
    have R3 := Hid.mk4 (R2.out.later b3)
    have T3 := Hid.mk4 (T2.out.later b3)
    have g3 := g2.trans (b3.mono g2.size)
    clear R2 T2 b3 g2 HC1
    go_wp2_with fail
    refine (HC2.out _ g R3.out T3.out).mono ?_
    rintro e w4 ⟨rfl, b4⟩
    have R4 := Hid.mk4 (R3.out.later b4)
    have T4 := Hid.mk4 (T3.out.later b4)
    have g4 := g3.trans (b4.mono g3.size)
    clear R3 T3 b4 g3 HC2
    go_wp2_with fail
    refine (HWH.out _ g R4.out T4.out).mono ?_
    rintro e w5 ⟨rfl, b5⟩
    have R5 := Hid.mk4 (R4.out.later b5)
    have g5 := g4.trans (b5.mono g4.size)
    clear b5 g4 HWH
    have g6 := g5
    clear g5
    go_wp2
    go_ret
    exact ⟨rfl, g6⟩
end Go.Proofs.YtfgefdkkjfjjjabDoor
