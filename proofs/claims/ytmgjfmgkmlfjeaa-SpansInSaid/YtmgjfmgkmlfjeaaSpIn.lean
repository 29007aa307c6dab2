/- SpansIn walked. -/
import Derived.Test.YtmgjfmgkmlfjeaaSpAgain
namespace Go.Proofs.Ytmgjfmgkmlfjeaa
open Go.RowKit Go.Sort
set_option linter.unusedSimpArgs false
set_option linter.unusedVariables false

theorem inE {L : List Sp} {a b : Int} (h : isS 200 L = true) (ha : 0 ≤ a) : inS15 0 200 L = L ∧ isS 200 (inS15 a b L) = true ∧ ∀ k, atS (inS15 a b L) k = if a ≤ k ∧ k < b then atS L k else 0 := by
  obtain ⟨h1, h2⟩ := isS_spec.1 h
  have h2' : OkS 200 0 0 L := h2
  refine ⟨in15_all L 0 0 h2' (Int.le_refl _) (Int.le_refl _), isS_spec.2 ⟨Nat.le_trans (inS15_len a b L) h1, inS15_ok ha L 0 0 0 0 h2 (by omega) (Or.inl ⟨rfl, rfl⟩)⟩, fun k => at_in15 L 0 0 k h2'⟩
set_option maxHeartbeats 4000000 in
set_option maxRecDepth 100000 in
theorem in_any15 (L : List Sp) (v : Value) (fr to : Int) (w : World) (h : SpAt w v L) (h0 : 0 ≤ fr ∧ fr ≤ 255) (h1 : 0 ≤ to ∧ to ≤ 255) :
    Calls Try.prog 5 #[v, .int .u8 fr, .int .u8 to] w fun e w' => e = .returned (.bool true) ∧ Below w.heap.size w w' := by
  have HK := Hid.mk7 (known15_any w)
  have HV := Hid.mk7 h
  obtain ⟨va, vcap, rfl⟩ := h.shape
  clear h
  by_cases hl : L.length ≤ 30
  case neg =>
    have d1 : decide ((30 : Int) < (L.length : Nat)) = true := decide_eq_true (by omega)
    have d2 : decide (30 < L.length) = true := decide_eq_true (by omega)
    go_enter Try.func5, Try.ntmps5
    go_wp2_with fail
    refine HK.out.mono ?_
    rintro e w0 ⟨rfl, b0⟩
    go_wp2
    go_ret
    exact ⟨rfl, b0⟩
  have dl1 : decide ((30 : Int) < (L.length : Nat)) = false := decide_eq_false (by omega)
  have dl2 : decide (30 < L.length) = false := decide_eq_false (by omega)
  cases hi : isS 200 L with
  | false =>
    have HI := Hid.mk7 hi
    clear hi
    go_enter Try.func5, Try.ntmps5
    go_wp2_with fail
    refine HK.out.mono ?_
    rintro e w0 ⟨rfl, b0⟩
    have V0 := Hid.mk7 (HV.out.later b0)
    have G0 := Hid.mk7 b0
    clear b0
    go_wp2_with fail
    refine (is_v V0.out HI.out).mono ?_
    rintro e w1 ⟨rfl, b1⟩
    have G1 := Hid.mk7 (G0.out.trans (b1.mono G0.out.size))
    clear b1
    go_wp2
    go_ret
    exact ⟨rfl, G1.out⟩
  | true =>
  have HI := Hid.mk7 hi
  clear hi
  rcases Int.lt_trichotomy fr to with hft | rfl | hft
  · have d1 : decide (fr ≤ to) = true := decide_eq_true (by omega)
    have d2 : decide (to ≤ fr) = false := decide_eq_false (by omega)
    have d3 : decide (fr < to) = true := decide_eq_true (by omega)
    have d4 : decide (to < fr) = false := decide_eq_false (by omega)
    have d5 : (fr == to) = false := by simp; omega
    obtain ⟨i1, i2, i3⟩ := inE (L := L) (a := fr) (b := to) HI.out (by omega)
    have hln := inS15_len fr to L
    have HI1 := Hid.mk7 i1
    have HI2 := Hid.mk7 i2
    have HI3 := Hid.mk7 i3
    obtain ⟨M, hM⟩ : ∃ M, inS15 fr to L = M := ⟨_, rfl⟩
    have HM := Hid.mk7 hM
    rw [hM] at HI2 HI3 hln
    clear i1 i2 i3 hM
    go_enter Try.func5, Try.ntmps5
    go_wp2_with fail
    refine HK.out.mono ?_
    rintro e w0 ⟨rfl, b0⟩
    have V0 := Hid.mk7 (HV.out.later b0)
    have G0 := Hid.mk7 b0
    clear b0
    go_wp2_with fail
    refine (is_v V0.out HI.out).mono ?_
    rintro e w1 ⟨rfl, b1⟩
    have V1 := Hid.mk7 ((V0.out.later b1).alloc (.cells #[.int .i64 fr, .int .i64 to] 37))
    have G1 := Hid.mk7 (below15 (G0.out.trans (b1.mono G0.out.size)) (.cells #[.int .i64 fr, .int .i64 to] 37))
    have q0 : (w1.alloc (.cells #[.int .i64 fr, .int .i64 to] 37)).cell? ⟨w1.heap.size, 0, none⟩ = some (.int .i64 fr) := by rw [World.cell?_alloc_new]; rfl
    have q1 : (w1.alloc (.cells #[.int .i64 fr, .int .i64 to] 37)).cell? ⟨w1.heap.size, 1, none⟩ = some (.int .i64 to) := by rw [World.cell?_alloc_new]; rfl
    clear b1 V0 G0
    go_wp2_with fail
    refine (inS_v V1.out (by omega) HM.out).mono ?_
    rintro e w2 ⟨mv, rfl, hm, b2⟩
    have V2 := Hid.mk7 (V1.out.later b2)
    have M2 := Hid.mk7 hm
    have G2 := Hid.mk7 (G1.out.trans (b2.mono G1.out.size))
    have Q0 := Hid.mk7 (cell_later7 b2 (Nat.le_refl _) q0)
    have Q1 := Hid.mk7 (cell_later7 b2 (Nat.le_refl _) q1)
    clear hm b2 q0 q1 V1 G1
    generalize hg : w1.heap.size = g at *
    clear hg
    go_wp2
    go_loopw [9] (fun iv wr => ∃ k : Nat, k ≤ 200 ∧ iv = .int .i64 (k : Nat) ∧ Hid (Below w2.heap.size w2 wr)) (fun iv _ => 200 - (intOf iv).toNat)
    case atStart => exact ⟨0, Nat.zero_le _, rfl, Below.refl _ _⟩
    case round =>
      obtain ⟨k, hk, rfl, HB⟩ := hrel
      have V3 := Hid.mk7 (V2.out.later HB.out)
      have M3 := Hid.mk7 (M2.out.later HB.out)
      have p0 := cell_later7 HB.out (Nat.le_refl _) Q0.out
      have p1 := cell_later7 HB.out (Nat.le_refl _) Q1.out
      by_cases hlt : k < 200
      · by_cases hin : fr ≤ (k : Int) ∧ (k : Int) < to
        · have t1 : decide (fr ≤ (k : Int)) = true := decide_eq_true hin.1
          have t2 : decide ((k : Int) < to) = true := decide_eq_true hin.2
          obtain ⟨z, hz⟩ : ∃ z, atS L k = z := ⟨_, rfl⟩
          have HZ := Hid.mk7 hz
          have HZ2 : Hid (atS M k = z) := by show _ = _; rw [HI3.out, if_pos hin, hz]
          clear hz
          go_wp2_with fail
          refine (at_v V3.out (by omega) HZ.out).mono ?_
          rintro e w4 ⟨rfl, b4⟩
          have M4 := Hid.mk7 (M3.out.later b4)
          have HB4 := Hid.mk7 (HB.out.trans (b4.mono HB.out.size))
          clear b4 p0 p1
          go_wp2_with fail
          refine (at_v M4.out (by omega) HZ2.out).mono ?_
          rintro e w5 ⟨rfl, b5⟩
          have HB5 := Hid.mk7 (HB4.out.trans (b5.mono HB4.out.size))
          clear b5 hin
          go_wp2
          go_roundw
          case rel => exact ⟨k + 1, by omega, by go_num, HB5⟩
          case measure => simp [intOf]; omega
        · have HZ2 : Hid (atS M k = 0) := by show _ = _; rw [HI3.out, if_neg hin]
          by_cases hin1 : fr ≤ (k : Int)
          · have t1 : decide (fr ≤ (k : Int)) = true := decide_eq_true hin1
            have t2 : decide ((k : Int) < to) = false := decide_eq_false (by omega)
            clear hin
            go_wp2_with fail
            refine (at_v M3.out (by omega) HZ2.out).mono ?_
            rintro e w5 ⟨rfl, b5⟩
            have HB5 := Hid.mk7 (HB.out.trans (b5.mono HB.out.size))
            clear b5 p0 p1
            go_wp2
            go_roundw
            case rel => exact ⟨k + 1, by omega, by go_num, HB5⟩
            case measure => simp [intOf]; omega
          · have t1 : decide (fr ≤ (k : Int)) = false := decide_eq_false hin1
            clear hin
            go_wp2_with fail
            refine (at_v M3.out (by omega) HZ2.out).mono ?_
            rintro e w5 ⟨rfl, b5⟩
            have HB5 := Hid.mk7 (HB.out.trans (b5.mono HB.out.size))
            clear b5 p0 p1
            go_wp2
            go_roundw
            case rel => exact ⟨k + 1, by omega, by go_num, HB5⟩
            case measure => simp [intOf]; omega
      · obtain rfl : k = 200 := by omega
        have G3 := Hid.mk7 (G2.out.trans (HB.out.mono G2.out.size))
        clear HB p0 p1
        go_wp2_with fail
        refine (inS_v V3.out (by omega) HI1.out).mono ?_
        rintro e w4 ⟨uv, rfl, hu, b4⟩
        have U4 := Hid.mk7 hu
        have V4 := Hid.mk7 (V3.out.later b4)
        have M4 := Hid.mk7 (M3.out.later b4)
        have G4 := Hid.mk7 (G3.out.trans (b4.mono G3.out.size))
        clear hu b4
        go_wp2_with fail
        refine (same_v15 U4.out V4.out (by omega)).mono ?_
        rintro e w5 ⟨rfl, b5⟩
        have M5 := Hid.mk7 (M4.out.later b5)
        have G5 := Hid.mk7 (G4.out.trans (b5.mono G4.out.size))
        clear b5
        go_wp2_with fail
        refine (is_v M5.out HI2.out).mono ?_
        rintro e w6 ⟨rfl, b6⟩
        have G6 := Hid.mk7 (G5.out.trans (b6.mono G5.out.size))
        clear b6
        go_wp2
        go_ret
        exact ⟨rfl, G6.out⟩
  · have d1 : (fr == fr) = true := by simp
    obtain ⟨i1, i2, i3⟩ := inE (L := L) (a := fr) (b := fr) HI.out (by omega)
    have hln := inS15_len fr fr L
    have HI1 := Hid.mk7 i1
    have HI2 := Hid.mk7 i2
    have HI3 := Hid.mk7 i3
    obtain ⟨M, hM⟩ : ∃ M, inS15 fr fr L = M := ⟨_, rfl⟩
    have HM := Hid.mk7 hM
    rw [hM] at HI2 HI3 hln
    clear i1 i2 i3 hM
    go_enter Try.func5, Try.ntmps5
    go_wp2_with fail
    refine HK.out.mono ?_
    rintro e w0 ⟨rfl, b0⟩
    have V0 := Hid.mk7 (HV.out.later b0)
    have G0 := Hid.mk7 b0
    clear b0
    go_wp2_with fail
    refine (is_v V0.out HI.out).mono ?_
    rintro e w1 ⟨rfl, b1⟩
    have V1 := Hid.mk7 ((V0.out.later b1).alloc (.cells #[.int .i64 fr, .int .i64 fr] 37))
    have G1 := Hid.mk7 (below15 (G0.out.trans (b1.mono G0.out.size)) (.cells #[.int .i64 fr, .int .i64 fr] 37))
    have q0 : (w1.alloc (.cells #[.int .i64 fr, .int .i64 fr] 37)).cell? ⟨w1.heap.size, 0, none⟩ = some (.int .i64 fr) := by rw [World.cell?_alloc_new]; rfl
    have q1 : (w1.alloc (.cells #[.int .i64 fr, .int .i64 fr] 37)).cell? ⟨w1.heap.size, 1, none⟩ = some (.int .i64 fr) := by rw [World.cell?_alloc_new]; rfl
    clear b1 V0 G0
    go_wp2_with fail
    refine (inS_v V1.out (by omega) HM.out).mono ?_
    rintro e w2 ⟨mv, rfl, hm, b2⟩
    have V2 := Hid.mk7 (V1.out.later b2)
    have M2 := Hid.mk7 hm
    have G2 := Hid.mk7 (G1.out.trans (b2.mono G1.out.size))
    have Q0 := Hid.mk7 (cell_later7 b2 (Nat.le_refl _) q0)
    have Q1 := Hid.mk7 (cell_later7 b2 (Nat.le_refl _) q1)
    clear hm b2 q0 q1 V1 G1
    generalize hg : w1.heap.size = g at *
    clear hg
    go_wp2
    go_loopw [9] (fun iv wr => ∃ k : Nat, k ≤ 200 ∧ iv = .int .i64 (k : Nat) ∧ Hid (Below w2.heap.size w2 wr)) (fun iv _ => 200 - (intOf iv).toNat)
    case atStart => exact ⟨0, Nat.zero_le _, rfl, Below.refl _ _⟩
    case round =>
      obtain ⟨k, hk, rfl, HB⟩ := hrel
      have V3 := Hid.mk7 (V2.out.later HB.out)
      have M3 := Hid.mk7 (M2.out.later HB.out)
      have p0 := cell_later7 HB.out (Nat.le_refl _) Q0.out
      have p1 := cell_later7 HB.out (Nat.le_refl _) Q1.out
      by_cases hlt : k < 200
      · by_cases hin : fr ≤ (k : Int) ∧ (k : Int) < fr
        · exact absurd hin (by omega)
        · have HZ2 : Hid (atS M k = 0) := by show _ = _; rw [HI3.out, if_neg hin]
          by_cases hin1 : fr ≤ (k : Int)
          · have t1 : decide (fr ≤ (k : Int)) = true := decide_eq_true hin1
            have t2 : decide ((k : Int) < fr) = false := decide_eq_false (by omega)
            clear hin
            go_wp2_with fail
            refine (at_v M3.out (by omega) HZ2.out).mono ?_
            rintro e w5 ⟨rfl, b5⟩
            have HB5 := Hid.mk7 (HB.out.trans (b5.mono HB.out.size))
            clear b5 p0 p1
            go_wp2
            go_roundw
            case rel => exact ⟨k + 1, by omega, by go_num, HB5⟩
            case measure => simp [intOf]; omega
          · have t1 : decide (fr ≤ (k : Int)) = false := decide_eq_false hin1
            clear hin
            go_wp2_with fail
            refine (at_v M3.out (by omega) HZ2.out).mono ?_
            rintro e w5 ⟨rfl, b5⟩
            have HB5 := Hid.mk7 (HB.out.trans (b5.mono HB.out.size))
            clear b5 p0 p1
            go_wp2
            go_roundw
            case rel => exact ⟨k + 1, by omega, by go_num, HB5⟩
            case measure => simp [intOf]; omega
      · obtain rfl : k = 200 := by omega
        have G3 := Hid.mk7 (G2.out.trans (HB.out.mono G2.out.size))
        clear HB p0 p1
        go_wp2_with fail
        refine (inS_v V3.out (by omega) HI1.out).mono ?_
        rintro e w4 ⟨uv, rfl, hu, b4⟩
        have U4 := Hid.mk7 hu
        have V4 := Hid.mk7 (V3.out.later b4)
        have M4 := Hid.mk7 (M3.out.later b4)
        have G4 := Hid.mk7 (G3.out.trans (b4.mono G3.out.size))
        clear hu b4
        go_wp2_with fail
        refine (same_v15 U4.out V4.out (by omega)).mono ?_
        rintro e w5 ⟨rfl, b5⟩
        have M5 := Hid.mk7 (M4.out.later b5)
        have G5 := Hid.mk7 (G4.out.trans (b5.mono G4.out.size))
        clear b5
        go_wp2_with fail
        refine (is_v M5.out HI2.out).mono ?_
        rintro e w6 ⟨rfl, b6⟩
        have G6 := Hid.mk7 (G5.out.trans (b6.mono G5.out.size))
        clear b6
        go_wp2
        go_ret
        exact ⟨rfl, G6.out⟩
  · have d1 : decide (to ≤ fr) = true := decide_eq_true (by omega)
    have d2 : decide (fr ≤ to) = false := decide_eq_false (by omega)
    have d3 : decide (to < fr) = true := decide_eq_true (by omega)
    have d4 : decide (fr < to) = false := decide_eq_false (by omega)
    have d5 : (to == fr) = false := by simp; omega
    obtain ⟨i1, i2, i3⟩ := inE (L := L) (a := to) (b := fr) HI.out (by omega)
    have hln := inS15_len to fr L
    have HI1 := Hid.mk7 i1
    have HI2 := Hid.mk7 i2
    have HI3 := Hid.mk7 i3
    obtain ⟨M, hM⟩ : ∃ M, inS15 to fr L = M := ⟨_, rfl⟩
    have HM := Hid.mk7 hM
    rw [hM] at HI2 HI3 hln
    clear i1 i2 i3 hM
    go_enter Try.func5, Try.ntmps5
    go_wp2_with fail
    refine HK.out.mono ?_
    rintro e w0 ⟨rfl, b0⟩
    have V0 := Hid.mk7 (HV.out.later b0)
    have G0 := Hid.mk7 b0
    clear b0
    go_wp2_with fail
    refine (is_v V0.out HI.out).mono ?_
    rintro e w1 ⟨rfl, b1⟩
    have V1 := Hid.mk7 ((V0.out.later b1).alloc (.cells #[.int .i64 to, .int .i64 fr] 37))
    have G1 := Hid.mk7 (below15 (G0.out.trans (b1.mono G0.out.size)) (.cells #[.int .i64 to, .int .i64 fr] 37))
    have q0 : (w1.alloc (.cells #[.int .i64 to, .int .i64 fr] 37)).cell? ⟨w1.heap.size, 0, none⟩ = some (.int .i64 to) := by rw [World.cell?_alloc_new]; rfl
    have q1 : (w1.alloc (.cells #[.int .i64 to, .int .i64 fr] 37)).cell? ⟨w1.heap.size, 1, none⟩ = some (.int .i64 fr) := by rw [World.cell?_alloc_new]; rfl
    clear b1 V0 G0
    go_wp2_with fail
    refine (inS_v V1.out (by omega) HM.out).mono ?_
    rintro e w2 ⟨mv, rfl, hm, b2⟩
    have V2 := Hid.mk7 (V1.out.later b2)
    have M2 := Hid.mk7 hm
    have G2 := Hid.mk7 (G1.out.trans (b2.mono G1.out.size))
    have Q0 := Hid.mk7 (cell_later7 b2 (Nat.le_refl _) q0)
    have Q1 := Hid.mk7 (cell_later7 b2 (Nat.le_refl _) q1)
    clear hm b2 q0 q1 V1 G1
    generalize hg : w1.heap.size = g at *
    clear hg
    go_wp2
    go_loopw [9] (fun iv wr => ∃ k : Nat, k ≤ 200 ∧ iv = .int .i64 (k : Nat) ∧ Hid (Below w2.heap.size w2 wr)) (fun iv _ => 200 - (intOf iv).toNat)
    case atStart => exact ⟨0, Nat.zero_le _, rfl, Below.refl _ _⟩
    case round =>
      obtain ⟨k, hk, rfl, HB⟩ := hrel
      have V3 := Hid.mk7 (V2.out.later HB.out)
      have M3 := Hid.mk7 (M2.out.later HB.out)
      have p0 := cell_later7 HB.out (Nat.le_refl _) Q0.out
      have p1 := cell_later7 HB.out (Nat.le_refl _) Q1.out
      by_cases hlt : k < 200
      · by_cases hin : to ≤ (k : Int) ∧ (k : Int) < fr
        · have t1 : decide (to ≤ (k : Int)) = true := decide_eq_true hin.1
          have t2 : decide ((k : Int) < fr) = true := decide_eq_true hin.2
          obtain ⟨z, hz⟩ : ∃ z, atS L k = z := ⟨_, rfl⟩
          have HZ := Hid.mk7 hz
          have HZ2 : Hid (atS M k = z) := by show _ = _; rw [HI3.out, if_pos hin, hz]
          clear hz
          go_wp2_with fail
          refine (at_v V3.out (by omega) HZ.out).mono ?_
          rintro e w4 ⟨rfl, b4⟩
          have M4 := Hid.mk7 (M3.out.later b4)
          have HB4 := Hid.mk7 (HB.out.trans (b4.mono HB.out.size))
          clear b4 p0 p1
          go_wp2_with fail
          refine (at_v M4.out (by omega) HZ2.out).mono ?_
          rintro e w5 ⟨rfl, b5⟩
          have HB5 := Hid.mk7 (HB4.out.trans (b5.mono HB4.out.size))
          clear b5 hin
          go_wp2
          go_roundw
          case rel => exact ⟨k + 1, by omega, by go_num, HB5⟩
          case measure => simp [intOf]; omega
        · have HZ2 : Hid (atS M k = 0) := by show _ = _; rw [HI3.out, if_neg hin]
          by_cases hin1 : to ≤ (k : Int)
          · have t1 : decide (to ≤ (k : Int)) = true := decide_eq_true hin1
            have t2 : decide ((k : Int) < fr) = false := decide_eq_false (by omega)
            clear hin
            go_wp2_with fail
            refine (at_v M3.out (by omega) HZ2.out).mono ?_
            rintro e w5 ⟨rfl, b5⟩
            have HB5 := Hid.mk7 (HB.out.trans (b5.mono HB.out.size))
            clear b5 p0 p1
            go_wp2
            go_roundw
            case rel => exact ⟨k + 1, by omega, by go_num, HB5⟩
            case measure => simp [intOf]; omega
          · have t1 : decide (to ≤ (k : Int)) = false := decide_eq_false hin1
            clear hin
            go_wp2_with fail
            refine (at_v M3.out (by omega) HZ2.out).mono ?_
            rintro e w5 ⟨rfl, b5⟩
            have HB5 := Hid.mk7 (HB.out.trans (b5.mono HB.out.size))
            clear b5 p0 p1
            go_wp2
            go_roundw
            case rel => exact ⟨k + 1, by omega, by go_num, HB5⟩
            case measure => simp [intOf]; omega
      · obtain rfl : k = 200 := by omega
        have G3 := Hid.mk7 (G2.out.trans (HB.out.mono G2.out.size))
        clear HB p0 p1
        go_wp2_with fail
        refine (inS_v V3.out (by omega) HI1.out).mono ?_
        rintro e w4 ⟨uv, rfl, hu, b4⟩
        have U4 := Hid.mk7 hu
        have V4 := Hid.mk7 (V3.out.later b4)
        have M4 := Hid.mk7 (M3.out.later b4)
        have G4 := Hid.mk7 (G3.out.trans (b4.mono G3.out.size))
        clear hu b4
        go_wp2_with fail
        refine (same_v15 U4.out V4.out (by omega)).mono ?_
        rintro e w5 ⟨rfl, b5⟩
        have M5 := Hid.mk7 (M4.out.later b5)
        have G5 := Hid.mk7 (G4.out.trans (b5.mono G4.out.size))
        clear b5
        go_wp2_with fail
        refine (is_v M5.out HI2.out).mono ?_
        rintro e w6 ⟨rfl, b6⟩
        have G6 := Hid.mk7 (G5.out.trans (b6.mono G5.out.size))
        clear b6
        go_wp2
        go_ret
        exact ⟨rfl, G6.out⟩
end Go.Proofs.Ytmgjfmgkmlfjeaa
