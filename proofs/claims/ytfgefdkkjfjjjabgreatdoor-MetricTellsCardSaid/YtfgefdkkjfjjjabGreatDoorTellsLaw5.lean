/- MetricTells, walked. -/
import Derived.Test.YtfgefdkkjfjjjabGreatDoorMetF
import Derived.Test.YtfgefdkkjfjjjabGreatDoorCct
import Derived.Test.YtfgefdkkjfjjjabGreatDoorRefTo
import Derived.Test.YtfgefdkkjfjjjabGreatDoorRefFrom
import Derived.Laws.IdiomStrings
namespace Go.Proofs.YtfgefdkkjfjjjabGreatDoor
open Go.RowKit Go.Sort
set_option linter.unusedSimpArgs false
set_option linter.unusedVariables false

theorem toB_bad {s : ByteArray} {k n : Int} (h : toE s k n ≠ 0) : toB s k n = 0 := by
  unfold toE at h
  unfold toB
  repeat' split at h
  all_goals simp_all
/-- Concat, of short texts. -/
theorem cat_short (tb : Nat × Nat) {g1 g2 : Nat} {A B : List UInt8} {w : World} (h1 : RpA (strongE tb) w (.pointer (some ⟨g1, 0, none⟩)) A) (h2 : RpA (strongE tb) w (.pointer (some ⟨g2, 0, none⟩)) B) (hl : A.length + B.length ≤ 2000) (hT : Tabs w tb) :
    Calls Tryz.prog 6 #[.pointer (some ⟨g1, 0, none⟩), .pointer (some ⟨g2, 0, none⟩)] w fun e w' => ∃ g, e = .returned (.tuple #[.pointer (some ⟨g, 0, none⟩), .int .i64 0]) ∧ RpA (strongE tb) w' (.pointer (some ⟨g, 0, none⟩)) (A ++ B) ∧ Below w.heap.size w w' := by
  refine (mcat_ok (strongE tb) tb (strong_tab tb) _ _ A B w h1 h2 (by omega) (strong_Dt tb (by rw [List.length_append]; omega)) hT).mono ?_
  rintro e w' ⟨r', he, hr', hb⟩
  obtain ⟨g', rfl⟩ := hr'.ptr
  exact ⟨g', he, hr', hb⟩
/-- Text put in ahead. -/
theorem rep_ahead (tb : Nat × Nat) {g : Nat} {A : List UInt8} {w : World} (s : ByteArray) (h : RpA (strongE tb) w (.pointer (some ⟨g, 0, none⟩)) A) (hs : s.size ≤ 200) (hl : A.length ≤ 2000) (hT : Tabs w tb) :
    Calls Tryz.prog 7 #[.pointer (some ⟨g, 0, none⟩), .int .i64 0, .int .i64 0, .string s] w fun e w' => ∃ g', e = .returned (.tuple #[.pointer (some ⟨g', 0, none⟩), .int .i64 0]) ∧ RpA (strongE tb) w' (.pointer (some ⟨g', 0, none⟩)) (cln s.data.toList ++ A) ∧ Below w.heap.size w w' := by
  have hc := cln_length s.data.toList
  rw [bytes_length] at hc
  have h1 := mrep_ok (strongE tb) tb (strong_tab tb) _ A 0 0 s w h (by omega) (Nat.le_refl _) (Nat.zero_le _) (by rw [List.take_zero]; rfl) (by rw [List.take_zero]; rfl) (by omega) (by omega) (strong_Dt tb (by rw [List.length_append, List.length_append, List.length_take, List.length_drop]; omega)) hT
  rw [List.take_zero, List.drop_zero, List.nil_append] at h1
  refine h1.mono ?_
  rintro e w' ⟨r', he, hr', hb⟩
  obtain ⟨g', rfl⟩ := hr'.ptr
  exact ⟨g', he, hr', hb⟩

set_option maxHeartbeats 8000000 in
set_option maxRecDepth 100000 in
theorem mtells_long (a b c : ByteArray) (fr tt n : Int) (ha : a.size ≤ maxLen) (hb : b.size ≤ maxLen) (hc : c.size ≤ maxLen) (hl : 200 < a.size ∨ 200 < b.size ∨ 200 < c.size) (w : World) (tb : Nat × Nat) (hT : Tabs w tb) :
    Calls Tryz.prog 3 #[.string a, .string b, .string c, .int .i64 fr, .int .i64 tt, .int .i64 n] w fun e w' => e = .returned (.bool true) ∧ Below w.heap.size w w' := by
  have HK := Hid.mk4 (known5_any tb w hT)
  unfold maxLen at ha hb hc
  have hcase : (200 : Int) < (a.size : Int) ∨ (decide ((200 : Int) < (a.size : Int)) = false ∧ decide (200 < a.size) = false ∧ (200 : Int) < (b.size : Int)) ∨ (decide ((200 : Int) < (a.size : Int)) = false ∧ decide (200 < a.size) = false ∧ decide ((200 : Int) < (b.size : Int)) = false ∧ decide (200 < b.size) = false ∧ (200 : Int) < (c.size : Int)) := by
    by_cases h1 : 200 < a.size
    · exact Or.inl (by omega)
    · by_cases h2 : 200 < b.size
      · exact Or.inr (Or.inl ⟨by simp; omega, by simp; omega, by omega⟩)
      · exact Or.inr (Or.inr ⟨by simp; omega, by simp; omega, by simp; omega, by simp; omega, by omega⟩)
  clear hl
  rcases hcase with t1 | ⟨t1, t2, t3⟩ | ⟨t1, t2, t3, t4, t5⟩
  all_goals
    go_enter Tryz.func3, Tryz.ntmps3
    go_wp2_with fail
    refine HK.out.mono ?_
    rintro e w1 ⟨rfl, b1⟩
    clear HK
    go_wp2
    go_ret
    exact ⟨rfl, b1⟩

set_option maxHeartbeats 8000000 in
set_option maxRecDepth 100000 in
theorem mtells_short (a b c : ByteArray) (fr tt n : Int) (ha : a.size ≤ 200) (hb : b.size ≤ 200) (hc : c.size ≤ 200) (hn : -9223372036854775808 ≤ n ∧ n ≤ 9223372036854775807) (w : World) (tb : Nat × Nat) (hT : Tabs w tb) :
    Calls Tryz.prog 3 #[.string a, .string b, .string c, .int .i64 fr, .int .i64 tt, .int .i64 n] w fun e w' => e = .returned (.bool true) ∧ Below w.heap.size w w' := by
  have HK := Hid.mk4 (known5_any tb w hT)
  have s1 : decide ((200 : Int) < (a.size : Int)) = false := by simp; omega
  have s2 : decide (200 < a.size) = false := by simp; omega
  have s3 : decide ((200 : Int) < (b.size : Int)) = false := by simp; omega
  have s4 : decide (200 < b.size) = false := by simp; omega
  have s5 : decide ((200 : Int) < (c.size : Int)) = false := by simp; omega
  have s6 : decide (200 < c.size) = false := by simp; omega
  obtain ⟨A, hA⟩ : ∃ A, A = cln a.data.toList := ⟨_, rfl⟩
  obtain ⟨B, hB⟩ : ∃ B, B = cln b.data.toList := ⟨_, rfl⟩
  obtain ⟨C, hC⟩ : ∃ C, C = cln c.data.toList := ⟨_, rfl⟩
  have lA : A.length ≤ 800 := by have := cln_length a.data.toList; rw [bytes_length, ← hA] at this; omega
  have lB : B.length ≤ 800 := by have := cln_length b.data.toList; rw [bytes_length, ← hB] at this; omega
  have lC : C.length ≤ 800 := by have := cln_length c.data.toList; rw [bytes_length, ← hC] at this; omega
  have HNA : Hid (∀ W, Tabs W tb → Calls Tryz.prog 5 #[.string a] W fun e w' => ∃ g, e = .returned (.tuple #[.pointer (some ⟨g, 0, none⟩), .int .i64 0]) ∧ RpA (strongE tb) w' (.pointer (some ⟨g, 0, none⟩)) A ∧ Below W.heap.size W w') := fun W hW => by rw [hA]; exact new_short tb a W (by omega) hW
  have HNB : Hid (∀ W, Tabs W tb → Calls Tryz.prog 5 #[.string b] W fun e w' => ∃ g, e = .returned (.tuple #[.pointer (some ⟨g, 0, none⟩), .int .i64 0]) ∧ RpA (strongE tb) w' (.pointer (some ⟨g, 0, none⟩)) B ∧ Below W.heap.size W w') := fun W hW => by rw [hB]; exact new_short tb b W (by omega) hW
  have HCT : Hid (∀ W g1 g2, RpA (strongE tb) W (.pointer (some ⟨g1, 0, none⟩)) A → RpA (strongE tb) W (.pointer (some ⟨g2, 0, none⟩)) B → Tabs W tb → Calls Tryz.prog 6 #[.pointer (some ⟨g1, 0, none⟩), .pointer (some ⟨g2, 0, none⟩)] W fun e w' => ∃ g, e = .returned (.tuple #[.pointer (some ⟨g, 0, none⟩), .int .i64 0]) ∧ RpA (strongE tb) w' (.pointer (some ⟨g, 0, none⟩)) (A ++ B) ∧ Below W.heap.size W w') := fun W g1 g2 h1 h2 hW => cat_short tb h1 h2 (by omega) hW
  have HRE : Hid (∀ W g, RpA (strongE tb) W (.pointer (some ⟨g, 0, none⟩)) (A ++ B) → Tabs W tb → Calls Tryz.prog 7 #[.pointer (some ⟨g, 0, none⟩), .int .i64 0, .int .i64 0, .string c] W fun e w' => ∃ g', e = .returned (.tuple #[.pointer (some ⟨g', 0, none⟩), .int .i64 0]) ∧ RpA (strongE tb) w' (.pointer (some ⟨g', 0, none⟩)) (C ++ (A ++ B)) ∧ Below W.heap.size W w') := fun W g h hW => by rw [hC]; exact rep_ahead tb c h hc (by rw [List.length_append]; omega) hW
  obtain ⟨SA, hSA⟩ : ∃ SA : ByteArray, SA = ⟨A.toArray⟩ := ⟨_, rfl⟩
  obtain ⟨SB, hSB⟩ : ∃ SB : ByteArray, SB = ⟨B.toArray⟩ := ⟨_, rfl⟩
  obtain ⟨SC, hSC⟩ : ∃ SC : ByteArray, SC = ⟨C.toArray⟩ := ⟨_, rfl⟩
  have zA : SA.size = A.length := by rw [hSA]; simp [ByteArray.size]
  have zB : SB.size = B.length := by rw [hSB]; simp [ByteArray.size]
  have zC : SC.size = C.length := by rw [hSC]; simp [ByteArray.size]
  have HLA : Hid (∀ W, Calls Tryz.prog 8 #[.string a] W fun e w' => e = .returned (.string SA) ∧ w' = W) := fun W => by rw [hSA, hA]; exact refclean_any a W (by omega)
  have HLB : Hid (∀ W, Calls Tryz.prog 8 #[.string b] W fun e w' => e = .returned (.string SB) ∧ w' = W) := fun W => by rw [hSB, hB]; exact refclean_any b W (by omega)
  have HLC : Hid (∀ W, Calls Tryz.prog 8 #[.string c] W fun e w' => e = .returned (.string SC) ∧ w' = W) := fun W => by rw [hSC, hC]; exact refclean_any c W (by omega)
  obtain ⟨S2, hS2⟩ : ∃ S2 : ByteArray, S2 = SC ++ SA := ⟨_, rfl⟩
  obtain ⟨S, hS⟩ : ∃ S : ByteArray, S = S2 ++ SB := ⟨_, rfl⟩
  have z2 : S2.size = C.length + A.length := by rw [hS2, ByteArray.size_append, zC, zA]
  have zS : S.size = C.length + A.length + B.length := by rw [hS, ByteArray.size_append, z2, zB]
  have hadd1 : ∀ W, Sem.run Tryz.prog (Op.stringOp BinOp.add SC SA) W = .ok (.string S2) W := fun W => by
    rw [hS2]
    exact run_string_add_sum W _ _ (by omega)
  have hadd2 : ∀ W, Sem.run Tryz.prog (Op.stringOp BinOp.add S2 SB) W = .ok (.string S) W := fun W => by
    rw [hS]
    exact run_string_add_sum W _ _ (by omega)
  obtain ⟨T, hTe⟩ : ∃ T, T = C ++ (A ++ B) := ⟨_, rfl⟩
  have hST : tx T = S := by
    have h1 : S.data.toList = T := by rw [hS, hS2, hTe, bytes_append, bytes_append, hSA, hSB, hSC, List.append_assoc]
    have h2 : S = ⟨S.data⟩ := rfl
    rw [h2]
    unfold tx
    rw [← h1]
  have hv : vld T = true := by rw [hTe, hA, hB, hC]; exact vld_append (cln_valid _) (vld_append (cln_valid _) (cln_valid _))
  have lT : T.length ≤ 2400 := by rw [hTe, List.length_append, List.length_append]; omega
  have lS : S.size ≤ 5000 := by omega
  rw [← hTe] at HRE
  have hSd : S.data.toList = T := by rw [← hST]
  have HTo : Hid (∀ W g, RpA (strongE tb) W (.pointer (some ⟨g, 0, none⟩)) T → Tabs W tb → Calls Tryz.prog 9 #[.pointer (some ⟨g, 0, none⟩), .int .i64 fr, .int .i64 n] W fun e w' => e = .returned (.tuple #[.int .i64 (toB S fr n), .int .i64 (toE S fr n)]) ∧ Below W.heap.size W w') := fun W g h hW => by rw [← hST]; exact mto_any tb fr n (Or.inr h) (by omega) hn hW
  have HRo : Hid (∀ W, Calls Tryz.prog 10 #[.string S, .int .i64 fr, .int .i64 n] W fun e w' => e = .returned (.tuple #[.int .i64 (toB S fr n), .int .i64 (toE S fr n)]) ∧ Below W.heap.size W w') := fun W => refto_any S fr n W lS
  have HFr : Hid (∀ W g, RpA (strongE tb) W (.pointer (some ⟨g, 0, none⟩)) T → Tabs W tb → Calls Tryz.prog 11 #[.pointer (some ⟨g, 0, none⟩), .int .i64 fr, .int .i64 n] W fun e w' => e = .returned (.tuple #[.int .i64 (frB S fr n), .int .i64 (frE S fr n)]) ∧ Below W.heap.size W w') := fun W g h hW => by rw [← hST]; exact mfrom_any tb fr n h (by omega) hW
  have HRf : Hid (∀ W, Calls Tryz.prog 12 #[.string S, .int .i64 fr, .int .i64 n] W fun e w' => e = .returned (.tuple #[.int .i64 (frB S fr n), .int .i64 (frE S fr n)]) ∧ Below W.heap.size W w') := fun W => reffrom_any S fr n W lS
  have HCv : Hid (∀ W g, RpA (strongE tb) W (.pointer (some ⟨g, 0, none⟩)) T → Tabs W tb → Calls Tryz.prog 13 #[.pointer (some ⟨g, 0, none⟩), .int .i64 fr, .int .i64 tt, .int .i64 n] W fun e w' => e = .returned (.tuple #[.int .i64 (cvB T fr tt n), .int .i64 (cvE T fr tt n)]) ∧ Below W.heap.size W w') := fun W g h hW => mconv_any tb fr tt n h (by omega) hn hW
  have HWh : Hid (∀ W g, RpA (strongE tb) W (.pointer (some ⟨g, 0, none⟩)) T → Tabs W tb → Calls Tryz.prog 14 #[.pointer (some ⟨g, 0, none⟩), .int .i64 fr] W fun e w' => e = .returned (.int .i64 (kT fr T)) ∧ Below W.heap.size W w') := fun W g h hW => mwhole_any tb fr (Or.inr h) (by omega) hW
  have HRO : Hid (∀ W, Calls Tryz.prog 16 #[.string S] W fun e w' => e = .returned (.agg #[.int .i64 (kB (pts T)), .int .i64 (kP (pts T)), .int .i64 (kU (pts T)), .int .i64 (kL (pts T))]) ∧ Below W.heap.size W w') := fun W => by rw [← hSd]; exact refof_any S W lS
  have HRG : Hid (∀ W, Calls Tryz.prog 15 #[.agg #[.int .i64 (kB (pts T)), .int .i64 (kP (pts T)), .int .i64 (kU (pts T)), .int .i64 (kL (pts T))], .int .i64 fr] W fun e w' => e = .returned (.int .i64 (kT fr T)) ∧ Below W.heap.size W w') := fun W => refget_any fr (kB (pts T)) (kP (pts T)) (kU (pts T)) (kL (pts T)) W
  have HXf : Hid (∀ W, Calls Tryz.prog 12 #[.string S, .int .i64 tt, .int .i64 (toB S fr n)] W fun e w' => e = .returned (.tuple #[.int .i64 (frB S tt (toB S fr n)), .int .i64 (frE S tt (toB S fr n))]) ∧ Below W.heap.size W w') := fun W => reffrom_any S tt (toB S fr n) W lS
  have hkind : (decide (0 ≤ fr) = false ∧ cvE T fr tt n = 12 ∧ cvB T fr tt n = 0) ∨ (decide (0 ≤ fr) = true ∧ decide (fr ≤ 3) = false ∧ cvE T fr tt n = 12 ∧ cvB T fr tt n = 0) ∨ (decide (0 ≤ fr) = true ∧ decide (fr ≤ 3) = true ∧ decide (0 ≤ tt) = false ∧ cvE T fr tt n = 12 ∧ cvB T fr tt n = 0) ∨ (decide (0 ≤ fr) = true ∧ decide (fr ≤ 3) = true ∧ decide (0 ≤ tt) = true ∧ decide (tt ≤ 3) = false ∧ cvE T fr tt n = 12 ∧ cvB T fr tt n = 0)
      ∨ (decide (0 ≤ fr) = true ∧ decide (fr ≤ 3) = true ∧ decide (0 ≤ tt) = true ∧ decide (tt ≤ 3) = true ∧ toE S fr n = 0 ∧ cvE T fr tt n = frE S tt (toB S fr n) ∧ cvB T fr tt n = frB S tt (toB S fr n))
      ∨ (decide (0 ≤ fr) = true ∧ decide (fr ≤ 3) = true ∧ decide (0 ≤ tt) = true ∧ decide (tt ≤ 3) = true ∧ (toE S fr n == 0) = false ∧ cvE T fr tt n = toE S fr n ∧ cvB T fr tt n = 0 ∧ toB S fr n = 0) := by
    by_cases h1 : 0 ≤ fr
    · by_cases h2 : fr ≤ 3
      · by_cases h3 : 0 ≤ tt
        · by_cases h4 : tt ≤ 3
          · obtain ⟨e1, e2⟩ := cv_eqs (T := T) ⟨h1, h2⟩ ⟨h3, h4⟩ n
            rw [hST] at e1 e2
            by_cases h5 : toE S fr n = 0
            · rw [if_pos h5] at e1 e2
              exact Or.inr (Or.inr (Or.inr (Or.inr (Or.inl ⟨by simpa using h1, by simpa using h2, by simpa using h3, by simpa using h4, h5, e1, e2⟩))))
            · rw [if_neg h5] at e1 e2
              exact Or.inr (Or.inr (Or.inr (Or.inr (Or.inr ⟨by simpa using h1, by simpa using h2, by simpa using h3, by simpa using h4, by simpa using h5, e1, e2, toB_bad h5⟩))))
          · have := cv_none (T := T) (f := fr) (t := tt) (Or.inr (by omega)) n
            exact Or.inr (Or.inr (Or.inr (Or.inl ⟨by simpa using h1, by simpa using h2, by simpa using h3, by simpa using h4, this.1, this.2⟩)))
        · have := cv_none (T := T) (f := fr) (t := tt) (Or.inr (by omega)) n
          exact Or.inr (Or.inr (Or.inl ⟨by simpa using h1, by simpa using h2, by simpa using h3, this.1, this.2⟩))
      · have := cv_none (T := T) (f := fr) (t := tt) (Or.inl (by omega)) n
        exact Or.inr (Or.inl ⟨by simpa using h1, by simpa using h2, this.1, this.2⟩)
    · have := cv_none (T := T) (f := fr) (t := tt) (Or.inl (by omega)) n
      exact Or.inl ⟨by simpa using h1, this.1, this.2⟩
  have HKD := Hid.mk4 hkind
  have HT := Hid.mk4 hT
  have uA : A.length ≤ 800 := lA
  clear hkind hT hA hB hC hSA hSB hSC hS2 hS hTe hST hSd hv lA lB lC lT lS zA zB zC z2 zS uA
  generalize toB S fr n = tB at *
  generalize toE S fr n = tE at *
  generalize frB S fr n = fB at *
  generalize frE S fr n = fE at *
  generalize frB S tt tB = xB at *
  generalize frE S tt tB = xE at *
  generalize kT fr T = kk at *
  generalize cvB T fr tt n = vB at *
  generalize cvE T fr tt n = vE at *
  generalize kB (pts T) = k0 at *
  generalize kP (pts T) = k1 at *
  generalize kU (pts T) = k2 at *
  generalize kL (pts T) = k3 at *
  go_enter Tryz.func3, Tryz.ntmps3
  go_wp2_with fail
  refine HK.out.mono ?_
  rintro e w1 ⟨rfl, b1⟩
  have T1 := Hid.mk4 (HT.out.later b1)
  clear HK
  go_wp2_with fail
  refine (HNA.out _ T1.out).mono ?_
  rintro e w2 ⟨ga, rfl, hr, b2⟩
  have RA2 := Hid.mk4 hr
  have g2 := b1.trans (b2.mono b1.size)
  have T2 := Hid.mk4 (T1.out.later b2)
  clear hr HNA b1 b2 T1
  go_wp2_with fail
  refine (HNB.out _ T2.out).mono ?_
  rintro e w3 ⟨gb, rfl, hr, b3⟩
  have RB3 := Hid.mk4 hr
  have RA3 := Hid.mk4 (RA2.out.later b3)
  have g3 := g2.trans (b3.mono g2.size)
  have T3 := Hid.mk4 (T2.out.later b3)
  clear hr HNB b3 g2 T2 RA2
  go_wp2_with fail
  refine (HCT.out _ ga gb RA3.out RB3.out T3.out).mono ?_
  rintro e w4 ⟨gz, rfl, hr, b4⟩
  have RZ4 := Hid.mk4 hr
  have g4 := g3.trans (b4.mono g3.size)
  have T4 := Hid.mk4 (T3.out.later b4)
  clear hr HCT b4 g3 T3 RA3 RB3
  go_wp2_with fail
  refine (HRE.out _ gz RZ4.out T4.out).mono ?_
  rintro e w5 ⟨g, rfl, hr, b5⟩
  have R5 := Hid.mk4 hr
  have g5 := g4.trans (b5.mono g4.size)
  have T5 := Hid.mk4 (T4.out.later b5)
  clear hr HRE b5 g4 T4 RZ4
  go_wp2_with fail
  refine (HLC.out _).mono ?_
  rintro e w6 ⟨rfl, rfl⟩
  clear HLC
  go_wp2_with fail
  refine (HLA.out _).mono ?_
  rintro e w7 ⟨rfl, rfl⟩
  clear HLA
  go_wp2_with fail
  refine (HLB.out _).mono ?_
  rintro e w8 ⟨rfl, rfl⟩
  clear HLB
  go_wp2_with fail
  refine (HTo.out _ g R5.out T5.out).mono ?_
  rintro e w9 ⟨rfl, b9⟩
  have R9 := Hid.mk4 (R5.out.later b9)
  have T9 := Hid.mk4 (T5.out.later b9)
  have g9 := g5.trans (b9.mono g5.size)
  clear HTo R5 T5 g5 b9 hadd1 hadd2
  go_wp2_with fail
  refine (HRo.out _).mono ?_
  rintro e w10 ⟨rfl, b10⟩
  have R10 := Hid.mk4 (R9.out.later b10)
  have T10 := Hid.mk4 (T9.out.later b10)
  have g10 := g9.trans (b10.mono g9.size)
  clear R9 T9 g9 b10
  go_wp2_with fail
  refine (HFr.out _ g R10.out T10.out).mono ?_
  rintro e w11 ⟨rfl, b11⟩
  have R11 := Hid.mk4 (R10.out.later b11)
  have T11 := Hid.mk4 (T10.out.later b11)
  have g11 := g10.trans (b11.mono g10.size)
  clear HFr R10 T10 g10 b11
  go_wp2_with fail
  refine (HRf.out _).mono ?_
  rintro e w12 ⟨rfl, b12⟩
  have R12 := Hid.mk4 (R11.out.later b12)
  have T12 := Hid.mk4 (T11.out.later b12)
  have g12 := g11.trans (b12.mono g11.size)
  clear HRf R11 T11 g11 b12
  rcases HKD.out with ⟨q1, rfl, rfl⟩ | ⟨q1, q2, rfl, rfl⟩ | ⟨q1, q2, q3, rfl, rfl⟩ | ⟨q1, q2, q3, q4, rfl, rfl⟩ | ⟨q1, q2, q3, q4, rfl, rfl, rfl⟩ | ⟨q1, q2, q3, q4, q5, rfl, rfl, rfl⟩
  case' inr.inr.inr.inr.inl =>
    go_wp2_with fail
    refine (HRo.out _).mono ?_
    rintro e w13 ⟨rfl, b13⟩
    have R13 := Hid.mk4 (R12.out.later b13)
    have T13 := Hid.mk4 (T12.out.later b13)
    have g13 := g12.trans (b13.mono g12.size)
    clear R12 T12 g12 b13 HRo
    go_wp2_with fail
    refine (HXf.out _).mono ?_
    rintro e w14 ⟨rfl, b14⟩
    have R12 := Hid.mk4 (R13.out.later b14)
    have T12 := Hid.mk4 (T13.out.later b14)
    have g12 := g13.trans (b14.mono g13.size)
    clear R13 T13 g13 b14 HXf
  case' inr.inr.inr.inr.inr =>
    go_wp2_with fail
    refine (HRo.out _).mono ?_
    rintro e w13 ⟨rfl, b13⟩
    have R13 := Hid.mk4 (R12.out.later b13)
    have T13 := Hid.mk4 (T12.out.later b13)
    have g13 := g12.trans (b13.mono g12.size)
    clear R12 T12 g12 b13 HRo HXf
    have R12 := R13
    have T12 := T13
    have g12 := g13
    clear R13 T13 g13
  all_goals
    clear HKD
    go_wp2_with fail
    refine (HCv.out _ g R12.out T12.out).mono ?_
    rintro e w15 ⟨rfl, b15⟩
    have R15 := Hid.mk4 (R12.out.later b15)
    have T15 := Hid.mk4 (T12.out.later b15)
    have g15 := g12.trans (b15.mono g12.size)
    clear R12 T12 g12 b15 HCv
    go_wp2_with fail
    refine (HWh.out _ g R15.out T15.out).mono ?_
    rintro e w16 ⟨rfl, b16⟩
    have g16 := g15.trans (b16.mono g15.size)
    clear R15 T15 g15 b16 HWh
    go_wp2_with fail
    refine (HRO.out _).mono ?_
    rintro e w17 ⟨rfl, b17⟩
    have g17 := g16.trans (b17.mono g16.size)
    clear g16 b17 HRO
    go_wp2_with fail
    refine (HRG.out _).mono ?_
    rintro e w18 ⟨rfl, b18⟩
    have g18 := g17.trans (b18.mono g17.size)
    clear g17 b18 HRG
    go_wp2
    go_ret
    exact ⟨rfl, g18⟩
theorem mtells_any (a b c : ByteArray) (fr tt n : Int) (ha : a.size ≤ maxLen) (hb : b.size ≤ maxLen) (hc : c.size ≤ maxLen) (hn : -9223372036854775808 ≤ n ∧ n ≤ 9223372036854775807) (w : World) (tb : Nat × Nat) (hT : Tabs w tb) :
    Calls Tryz.prog 3 #[.string a, .string b, .string c, .int .i64 fr, .int .i64 tt, .int .i64 n] w fun e w' => e = .returned (.bool true) ∧ Below w.heap.size w w' := by
  by_cases hl : 200 < a.size ∨ 200 < b.size ∨ 200 < c.size
  · exact mtells_long a b c fr tt n ha hb hc hl w tb hT
  · exact mtells_short a b c fr tt n (by omega) (by omega) (by omega) hn w tb hT
end Go.Proofs.YtfgefdkkjfjjjabGreatDoor
