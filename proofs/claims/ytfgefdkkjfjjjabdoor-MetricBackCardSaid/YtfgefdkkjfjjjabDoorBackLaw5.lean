/- MetricBack, walked. -/
import Derived.Test.YtfgefdkkjfjjjabDoorMetF
namespace Go.Proofs.YtfgefdkkjfjjjabDoor
open Go.RowKit Go.Sort
set_option linter.unusedSimpArgs false
set_option linter.unusedVariables false

/-- One step, there and back. -/
theorem mb_step {T : List UInt8} (hv : vld T = true) (hz : T.length ≤ 1200) {a b : Nat} (ha : a ≤ 2) (hb : b ≤ 2) (k : Nat) :
    ∃ v f : Int, cvB T a b k = v ∧ cvE T a b k = f ∧ ((f != 0) = true ∨ (f = 0 ∧ (-9223372036854775808 ≤ v ∧ v ≤ 9223372036854775807) ∧ cvB T b a v = k ∧ cvE T b a v = 0)) := by
  refine ⟨_, _, rfl, rfl, ?_⟩
  by_cases h : cvE T a b k = 0
  · right
    obtain ⟨e1, e2⟩ := cv_back hv (a := (a : Int)) (b := (b : Int)) (by omega) (by omega) h
    obtain ⟨cs1, cs2, h1, h2, h3⟩ := cv_place hv (f := (a : Int)) (t := (b : Int)) (by omega) (by omega) h
    have h4 := kG_range b cs1
    have h5 := kT_le T b
    have h6 : kT b T = kG b cs1 + kG b cs2 := by unfold kT; rw [h1, kG_append]
    have h7 := (kG_range b cs2).1
    rw [← h3] at h4 h6
    exact ⟨h, by omega, e2, e1⟩
  · left
    simpa using h

set_option maxHeartbeats 8000000 in
set_option maxRecDepth 100000 in
theorem mback_any (s : ByteArray) (hs : s.size ≤ maxLen) (w : World) (tb : Nat × Nat) (hT : Tabs w tb) :
    Calls Tryd.prog 4 #[.string s] w fun e w' => e = .returned (.bool true) ∧ Below w.heap.size w w' := by
  have HK := Hid.mk4 (known5_any tb w hT)
  by_cases hlong : 150 < s.size
  · have t1 : (150 : Int) < (s.size : Int) := by omega
    clear hlong
    go_enter Tryd.func4, Tryd.ntmps4
    go_wp2_with fail
    refine HK.out.mono ?_
    rintro e w1 ⟨rfl, b1⟩
    clear HK
    go_wp2
    go_ret
    exact ⟨rfl, b1⟩
  have t1 : decide ((150 : Int) < (s.size : Int)) = false := by simp; omega
  have t2 : decide (150 < s.size) = false := by simp; omega
  have HN : Hid (∀ W, Tabs W tb → Calls Tryd.prog 8 #[.string s] W fun e w' => ∃ g, e = .returned (.tuple #[.pointer (some ⟨g, 0, none⟩), .int .i64 0]) ∧ RpA (strongE tb) w' (.pointer (some ⟨g, 0, none⟩)) (cln s.data.toList) ∧ Below W.heap.size W w') := fun W hW => new_short tb s W (by omega) hW
  have hl := cln_length s.data.toList
  rw [bytes_length] at hl
  obtain ⟨T, hTe⟩ : ∃ T, T = cln s.data.toList := ⟨_, rfl⟩
  have hv : vld T = true := by rw [hTe]; exact cln_valid _
  rw [← hTe] at HN hl
  have hz : T.length ≤ 1200 := by omega
  have HT := Hid.mk4 hT
  have HV := Hid.mk4 hv
  have HZ := Hid.mk4 hz
  clear hT hTe hl hlong hv hz
  go_enter Tryd.func4, Tryd.ntmps4
  go_wp2_with fail
  refine HK.out.mono ?_
  rintro e w1 ⟨rfl, b1⟩
  have T1 := Hid.mk4 (HT.out.later b1)
  clear HK
  go_wp2_with fail
  refine (HN.out _ T1.out).mono ?_
  rintro e w2 ⟨g, rfl, hr, b2⟩
  have R2 := Hid.mk4 hr
  have g2 := b1.trans (b2.mono b1.size)
  clear hr HN b1 b2 T1
  go_wp2
  go_loopw [5] (fun av wr => ∃ a : Nat, a ≤ 3 ∧ av = .int .i64 (a : Nat) ∧ Hid (RpA (strongE tb) wr (.pointer (some ⟨g, 0, none⟩)) T) ∧ Below w.heap.size w wr) (fun av _ => 3 - (intOf av).toNat)
  case atStart => exact ⟨0, by omega, rfl, R2, g2⟩
  case round =>
    clear R2 g2
    obtain ⟨a, ha, rfl, RA, ga⟩ := hrel
    by_cases ha3 : (a : Int) < 3
    · obtain ⟨K, hK⟩ : ∃ K : Nat, kT a T = (K : Int) := ⟨(kT a T).toNat, by have := kT_nonneg a T; omega⟩
      have hKz : K ≤ 4800 := by have := kT_le T a; have := HZ.out; omega
      have HW : Hid (∀ W, RpA (strongE tb) W (.pointer (some ⟨g, 0, none⟩)) T → Tabs W tb → Calls Tryd.prog 16 #[.pointer (some ⟨g, 0, none⟩), .int .i64 (a : Nat)] W fun e w' => e = .returned (.int .i64 (K : Nat)) ∧ Below W.heap.size W w') := fun W hg hW => by
        have := mwhole_any tb a (Or.inr hg) (by have := HZ.out; omega) hW
        rwa [hK] at this
      have HKK := Hid.mk4 hK
      clear hK
      go_wp2
      go_loopw [6] (fun bv wr => ∃ b : Nat, b ≤ 3 ∧ bv = .int .i64 (b : Nat) ∧ Hid (RpA (strongE tb) wr (.pointer (some ⟨g, 0, none⟩)) T) ∧ Below w.heap.size w wr) (fun bv _ => 3 - (intOf bv).toNat)
      case atStart => exact ⟨0, by omega, rfl, RA, ga⟩
      case round =>
        clear RA ga
        obtain ⟨b, hb, rfl, RB, gb⟩ := hrel
        by_cases hb3 : (b : Int) < 3
        · go_wp2
          go_loopw [7] (fun kv wr => ∃ k : Nat, k ≤ K + 1 ∧ kv = .int .i64 (k : Nat) ∧ Hid (RpA (strongE tb) wr (.pointer (some ⟨g, 0, none⟩)) T) ∧ Below w.heap.size w wr) (fun kv _ => K + 1 - (intOf kv).toNat)
          case atStart => exact ⟨0, by omega, rfl, RB, gb⟩
          case round =>
            clear RB gb
            obtain ⟨k, hk, rfl, RC, gc⟩ := hrel
            have TC := Hid.mk4 (HT.out.later gc)
            go_wp2_with fail
            refine (HW.out _ RC.out TC.out).mono ?_
            rintro e w3 ⟨rfl, b3⟩
            have R3 := Hid.mk4 (RC.out.later b3)
            have T3 := Hid.mk4 (TC.out.later b3)
            have g3 := gc.trans (b3.mono gc.size)
            clear RC TC b3 gc
            by_cases hkK : (k : Int) ≤ (K : Int)
            · obtain ⟨v, f, e1, e2, e3⟩ := mb_step HV.out HZ.out (show a ≤ 2 by omega) (show b ≤ 2 by omega) k
              have HC1 : Hid (∀ W, RpA (strongE tb) W (.pointer (some ⟨g, 0, none⟩)) T → Tabs W tb → Calls Tryd.prog 17 #[.pointer (some ⟨g, 0, none⟩), .int .i64 (a : Nat), .int .i64 (b : Nat), .int .i64 (k : Nat)] W fun e w' => e = .returned (.tuple #[.int .i64 v, .int .i64 f]) ∧ Below W.heap.size W w') := fun W hg hW => by
                have := mconv_any tb a b k hg (by have := HZ.out; omega) (by omega) hW
                rwa [e1, e2] at this
              clear e1 e2
              rcases e3 with hf | ⟨rfl, hvr, e4, e5⟩
              · go_wp2_with fail
                refine (HC1.out _ R3.out T3.out).mono ?_
                rintro e w4 ⟨rfl, b4⟩
                have R4 := Hid.mk4 (R3.out.later b4)
                have g4 := g3.trans (b4.mono g3.size)
                clear R3 T3 b4 g3 HC1
                go_wp2
                go_roundw
                case rel => exact ⟨k + 1, by omega, by go_num, R4, g4⟩
                case measure => simp [intOf]; omega
              · have HC2 : Hid (∀ W, RpA (strongE tb) W (.pointer (some ⟨g, 0, none⟩)) T → Tabs W tb → Calls Tryd.prog 17 #[.pointer (some ⟨g, 0, none⟩), .int .i64 (b : Nat), .int .i64 (a : Nat), .int .i64 v] W fun e w' => e = .returned (.tuple #[.int .i64 (k : Nat), .int .i64 0]) ∧ Below W.heap.size W w') := fun W hg hW => by
                  have := mconv_any tb b a v hg (by have := HZ.out; omega) hvr hW
                  rwa [e4, e5] at this
                clear e4 e5 hvr
                go_wp2_with fail
                refine (HC1.out _ R3.out T3.out).mono ?_
                rintro e w4 ⟨rfl, b4⟩
                have R4 := Hid.mk4 (R3.out.later b4)
                have T4 := Hid.mk4 (T3.out.later b4)
                have g4 := g3.trans (b4.mono g3.size)
                clear R3 T3 b4 g3 HC1
                go_wp2_with fail
                refine (HC2.out _ R4.out T4.out).mono ?_
                rintro e w5 ⟨rfl, b5⟩
                have R5 := Hid.mk4 (R4.out.later b5)
                have g5 := g4.trans (b5.mono g4.size)
                clear R4 T4 b5 g4 HC2
                go_wp2
                go_roundw
                case rel => exact ⟨k + 1, by omega, by go_num, R5, g5⟩
                case measure => simp [intOf]; omega
            · obtain ⟨c1, c2, c3⟩ := cv_end HV.out (a := (a : Int)) (b := (b : Int)) (by omega) (by omega)
              rw [HKK.out] at c1 c2 c3
              have HE1 : Hid (∀ W, RpA (strongE tb) W (.pointer (some ⟨g, 0, none⟩)) T → Tabs W tb → Calls Tryd.prog 17 #[.pointer (some ⟨g, 0, none⟩), .int .i64 (a : Nat), .int .i64 (b : Nat), .int .i64 (K : Nat)] W fun e w' => e = .returned (.tuple #[.int .i64 (kT b T), .int .i64 0]) ∧ Below W.heap.size W w') := fun W hg hW => by
                have := mconv_any tb a b K hg (by have := HZ.out; omega) (by omega) hW
                rwa [c1, c2] at this
              have HE2 : Hid (∀ W, RpA (strongE tb) W (.pointer (some ⟨g, 0, none⟩)) T → Tabs W tb → Calls Tryd.prog 17 #[.pointer (some ⟨g, 0, none⟩), .int .i64 (a : Nat), .int .i64 (b : Nat), .int .i64 ((K : Int) + 1)] W fun e w' => e = .returned (.tuple #[.int .i64 (cvB T a b ((K : Int) + 1)), .int .i64 10]) ∧ Below W.heap.size W w') := fun W hg hW => by
                have := mconv_any tb a b ((K : Int) + 1) hg (by have := HZ.out; omega) (by omega) hW
                rwa [c3] at this
              have HWB : Hid (∀ W, RpA (strongE tb) W (.pointer (some ⟨g, 0, none⟩)) T → Tabs W tb → Calls Tryd.prog 16 #[.pointer (some ⟨g, 0, none⟩), .int .i64 (b : Nat)] W fun e w' => e = .returned (.int .i64 (kT b T)) ∧ Below W.heap.size W w') := fun W hg hW => mwhole_any tb b (Or.inr hg) (by have := HZ.out; omega) hW
              generalize cvB T a b ((K : Int) + 1) = z at HE2
              generalize kT b T = y at HE1 HWB
              clear c1 c2 c3
              go_wp2_with fail
              refine (HW.out _ R3.out T3.out).mono ?_
              rintro e w4 ⟨rfl, b4⟩
              have R4 := Hid.mk4 (R3.out.later b4)
              have T4 := Hid.mk4 (T3.out.later b4)
              have g4 := g3.trans (b4.mono g3.size)
              clear R3 T3 b4 g3
              go_wp2_with fail
              refine (HE1.out _ R4.out T4.out).mono ?_
              rintro e w5 ⟨rfl, b5⟩
              have R5 := Hid.mk4 (R4.out.later b5)
              have T5 := Hid.mk4 (T4.out.later b5)
              have g5 := g4.trans (b5.mono g4.size)
              clear R4 T4 b5 g4 HE1
              go_wp2_with fail
              refine (HW.out _ R5.out T5.out).mono ?_
              rintro e w6 ⟨rfl, b6⟩
              have R6 := Hid.mk4 (R5.out.later b6)
              have T6 := Hid.mk4 (T5.out.later b6)
              have g6 := g5.trans (b6.mono g5.size)
              clear R5 T5 b6 g5
              go_wp2_with fail
              refine (HE2.out _ R6.out T6.out).mono ?_
              rintro e w7 ⟨rfl, b7⟩
              have R7 := Hid.mk4 (R6.out.later b7)
              have T7 := Hid.mk4 (T6.out.later b7)
              have g7 := g6.trans (b7.mono g6.size)
              clear R6 T6 b7 g6 HE2
              go_wp2_with fail
              refine (HWB.out _ R7.out T7.out).mono ?_
              rintro e w8 ⟨rfl, b8⟩
              have R8 := Hid.mk4 (R7.out.later b8)
              have g8 := g7.trans (b8.mono g7.size)
              clear R7 T7 b8 g7 HWB
              go_wp2
              go_roundw
              case rel => exact ⟨b + 1, by omega, by go_num, R8, g8⟩
              case measure => simp [intOf]; omega
        · go_wp2
          go_roundw
          case rel => exact ⟨a + 1, by omega, by go_num, RB, gb⟩
          case measure => simp [intOf]; omega
    · go_wp2
      go_ret
      exact ⟨rfl, ga⟩
end Go.Proofs.YtfgefdkkjfjjjabDoor
