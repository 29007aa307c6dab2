/- 'same' of layer 7: where both are the same row. -/
import Derived.Test.YtgdolopggocleaaSubRef
namespace Go.Proofs.Ytgdolopggocleaa
open Go.RowKit Go.Sort
set_option linter.unusedSimpArgs false
set_option linter.unusedVariables false

theorem szc_snoc {L : List Int} {k : Nat} {z : Int} (h : L[k]? = some z) : szc (L.take (k + 1)) = szc (L.take k) + if 0 < z then 1 else 0 := by
  rw [take_snoc7 h, szc_append]
  congr 1
  have := szc_rep 1 z
  simpa using this
theorem cnt_get {L : List Int} {k : Nat} {z : Int} (h : L[k]? = some z) : cnt L (k : Int) = z := by
  unfold cnt
  rw [if_neg (by omega), Int.toNat_natCast, h]
  rfl
set_option maxHeartbeats 4000000 in
set_option maxRecDepth 100000 in
theorem same_true {w : World} {s v : Value} {L : List Int} (hs : Sub w s L) (hv : NumAt .i64 w v L) (hl : L.length ≤ 20000) :
    Calls Try.prog 14 #[s, v] w fun e w' => e = .returned (.bool true) ∧ Below w.heap.size w w' := by
  have HS := Hid.mk7 hs
  have HV := Hid.mk7 hv
  obtain ⟨a, cap, rfl, hcap, hcells⟩ := hv
  have HC := Hid.mk7 hcells
  have HLEN := Hid.mk7 (len_any7 hs (by omega))
  clear hcells hs
  go_enter Try.func14, Try.ntmps14
  go_wp2_with fail
  refine HLEN.out.mono ?_
  rintro e w1 ⟨rfl, b1⟩
  clear HLEN
  go_wp2
  go_loopw [5, 6] (fun nv iv wr => ∃ k P : Nat, k ≤ L.length ∧ iv = .int .i64 (k : Nat) ∧ nv = .int .i64 (P : Nat) ∧ P ≤ k ∧ Hid (P = szc (L.take k)) ∧ Below w.heap.size w wr) (fun _ iv _ => L.length - (intOf iv).toNat)
  case atStart => exact ⟨0, 0, Nat.zero_le _, rfl, rfl, by omega, rfl, b1⟩
  case round =>
    obtain ⟨k, P, hk, rfl, rfl, hP, HPX, hb⟩ := hrel
    by_cases hlt : k < L.length
    · obtain ⟨z, hz⟩ : ∃ r, L[k]? = some r := ⟨L[k], List.getElem?_eq_getElem hlt⟩
      obtain ⟨g, off, rfl, q0⟩ := HC.out k _ hz
      have c0 := cell_later7 hb (Nat.le_refl _) q0
      have z0 := cell_regrown c0
      have CC : Hid (∀ d os, Calls Try.prog 20 #[s, .int .i64 (k : Nat)] (grow (redrawn wr d) os) fun e w'' => e = .returned (.int .i64 z) ∧ ∃ p : Regrown, w'' = grow (redrawn wr p.d) p.os) := fun d os => by
        have := count_any (k : Int) ((HS.out.later hb).later (below_regrown wr d os)) (by omega) (by omega)
        rw [cnt_get hz] at this
        exact Calls.regrown_of this
      have CH : Hid (∀ d os, Calls Try.prog 23 #[s, .int .i64 (k : Nat)] (grow (redrawn wr d) os) fun e w'' => e = .returned (.bool (decide (0 < z))) ∧ ∃ p : Regrown, w'' = grow (redrawn wr p.d) p.os) := fun d os => by
        have := has_any (k : Int) ((HS.out.later hb).later (below_regrown wr d os)) (by omega) (by omega)
        rw [cnt_get hz] at this
        exact Calls.regrown_of this
      have HSZ := Hid.mk7 (szc_snoc hz)
      clear q0 hz
      by_cases hp : 0 < z
      · have dz : decide (0 < z) = true := decide_eq_true hp
        rw [dz] at CH
        have HP2 : Hid (P + 1 = szc (L.take (k + 1))) := by have := HSZ.out; rw [if_pos hp, ← HPX.out] at this; exact this.symm
        go_wp2
        clear c0
        refine wp_region_quiet_below (by kernel_rfl) (by kernel_rfl) ?_
        repeat (go_big_quiet_step (first | (go_at_call 20; exact CC.out _ _) | (go_at_call 23; exact CH.out _ _)))
        refine wpQuiet_nil ?_
        intro _ hw'
        obtain ⟨⟨dq, osq⟩, hw''⟩ := hw'
        subst hw''
        have c1 := z0 dq osq
        have hb2 := hb.trans ((below_regrown wr dq osq).mono hb.size)
        clear z0 CC CH hb
        generalize grow (redrawn wr dq) osq = W at *
        go_wp2
        go_roundw
        case rel => exact ⟨k + 1, P + 1, by omega, by go_num, by go_num, by omega, HP2, hb2⟩
        case measure => simp [intOf]; omega
      · have dz : decide (0 < z) = false := decide_eq_false hp
        rw [dz] at CH
        have HP2 : Hid (P = szc (L.take (k + 1))) := by have := HSZ.out; rw [if_neg hp, ← HPX.out, Nat.add_zero] at this; exact this.symm
        go_wp2
        clear c0
        refine wp_region_quiet_below (by kernel_rfl) (by kernel_rfl) ?_
        repeat (go_big_quiet_step (first | (go_at_call 20; exact CC.out _ _) | (go_at_call 23; exact CH.out _ _)))
        refine wpQuiet_nil ?_
        intro _ hw'
        obtain ⟨⟨dq, osq⟩, hw''⟩ := hw'
        subst hw''
        have c1 := z0 dq osq
        have hb2 := hb.trans ((below_regrown wr dq osq).mono hb.size)
        clear z0 CC CH hb
        generalize grow (redrawn wr dq) osq = W at *
        go_wp2
        go_roundw
        case rel => exact ⟨k + 1, P, by omega, by go_num, by go_num, by omega, HP2, hb2⟩
        case measure => simp [intOf]; omega
    · obtain rfl : k = L.length := by omega
      rw [List.take_length] at HPX
      have hrl := rle_len L
      have S1 := Hid.mk7 (HS.out.later hb)
      have V1 := Hid.mk7 (HV.out.later hb)
      clear HS HV
      go_wp2_with fail
      refine (segs_any S1.out (by omega)).mono ?_
      rintro e w2 ⟨u, rfl, hu, b2⟩
      obtain ⟨ua, ucap, rfl, hucap, _⟩ := id hu
      have U2 := Hid.mk7 hu
      have S2 := Hid.mk7 (S1.out.later b2)
      have V2 := Hid.mk7 (V1.out.later b2)
      have g2 := hb.trans (b2.mono hb.size)
      clear S1 V1 hb b2 hu
      go_wp2_with fail
      refine (refsegs_any V2.out (by omega)).mono ?_
      rintro e w3 ⟨t, rfl, ht, b3⟩
      obtain ⟨ta, tcap, rfl, htcap, _⟩ := own_shape ht
      have T3 := Hid.mk7 ht.row
      have U3 := Hid.mk7 (U2.out.later b3)
      have S3 := Hid.mk7 (S2.out.later b3)
      have g3 := g2.trans (b3.mono g2.size)
      clear U2 S2 V2 g2 b3 ht
      have H1 : Hid (∀ W, Sub W s L → Calls Try.prog 22 #[s] W fun e w' => e = .returned (.int .i64 (P : Nat)) ∧ Below W.heap.size W w') := fun W h => by
        have := size_any7 h (by omega)
        rw [← HPX.out] at this
        exact this
      have H2 : Hid (∀ W, Sub W s L → Calls Try.prog 21 #[s] W fun e w' => e = .returned (.bool ((P : Int) == 0)) ∧ Below W.heap.size W w') := fun W h => by
        have := empty_any7 h (by omega)
        rw [← HPX.out, show decide (P = 0) = ((P : Int) == 0) from by rw [Bool.eq_iff_iff]; simp] at this
        exact this
      have H3 : Hid (∀ W, Sub W s L → Calls Try.prog 20 #[s, .int .i64 (-1)] W fun e w' => e = .returned (.int .i64 0) ∧ Below W.heap.size W w') := fun W h => by
        have := count_any (-1) h (by omega) (by omega)
        rw [cnt_neg (by omega)] at this
        exact this
      have H4 : Hid (∀ W, Sub W s L → Calls Try.prog 20 #[s, .int .i64 (L.length : Nat)] W fun e w' => e = .returned (.int .i64 0) ∧ Below W.heap.size W w') := fun W h => by
        have := count_any (L.length : Int) h (by omega) (by omega)
        rw [cnt_out (by omega)] at this
        exact this
      have H5 : Hid (∀ W, Sub W s L → Calls Try.prog 23 #[s, .int .i64 (L.length : Nat)] W fun e w' => e = .returned (.bool false) ∧ Below W.heap.size W w') := fun W h => by
        have := has_any (L.length : Int) h (by omega) (by omega)
        rw [cnt_out (by omega)] at this
        exact this
      have hrl2 : (rle L).length ≤ 20000 := by omega
      go_wp2_with fail
      refine (H1.out _ S3.out).mono ?_
      rintro e w4 ⟨rfl, b4⟩
      have T4 := Hid.mk7 (T3.out.later b4)
      have U4 := Hid.mk7 (U3.out.later b4)
      have S4 := Hid.mk7 (S3.out.later b4)
      have g4 := g3.trans (b4.mono g3.size)
      clear T3 U3 S3 g3 b4
      go_wp2_with fail
      refine (H2.out _ S4.out).mono ?_
      rintro e w5 ⟨rfl, b5⟩
      have T5 := Hid.mk7 (T4.out.later b5)
      have U5 := Hid.mk7 (U4.out.later b5)
      have S5 := Hid.mk7 (S4.out.later b5)
      have g5 := g4.trans (b5.mono g4.size)
      clear T4 U4 S4 g4 b5
      go_wp2_with fail
      refine (H3.out _ S5.out).mono ?_
      rintro e w6 ⟨rfl, b6⟩
      have T6 := Hid.mk7 (T5.out.later b6)
      have U6 := Hid.mk7 (U5.out.later b6)
      have S6 := Hid.mk7 (S5.out.later b6)
      have g6 := g5.trans (b6.mono g5.size)
      clear T5 U5 S5 g5 b6
      go_wp2_with fail
      refine (H4.out _ S6.out).mono ?_
      rintro e w7 ⟨rfl, b7⟩
      have T7 := Hid.mk7 (T6.out.later b7)
      have U7 := Hid.mk7 (U6.out.later b7)
      have S7 := Hid.mk7 (S6.out.later b7)
      have g7 := g6.trans (b7.mono g6.size)
      clear T6 U6 S6 g6 b7
      go_wp2_with fail
      refine (H5.out _ S7.out).mono ?_
      rintro e w8 ⟨rfl, b8⟩
      have T8 := Hid.mk7 (T7.out.later b8)
      have U8 := Hid.mk7 (U7.out.later b8)
      have S8 := Hid.mk7 (S7.out.later b8)
      have g8 := g7.trans (b8.mono g7.size)
      clear T7 U7 S7 g7 b8
      obtain ⟨ta', tcap', he1, _, _, htc⟩ := T8.out
      obtain ⟨ua', ucap', he2, _, _, huc⟩ := U8.out
      cases he1
      cases he2
      have HTC := Hid.mk7 htc
      have HUC := Hid.mk7 huc
      clear htc huc H1 H2 H3 H4 H5 hlt hk
      generalize rle L = rs at *
      go_wp2
      go_loopw [9] (fun jv wx => ∃ j : Nat, j ≤ rs.length ∧ jv = .int .i64 (j : Nat) ∧ Below w8.heap.size w8 wx) (fun jv _ => rs.length - (intOf jv).toNat)
      case atStart => exact ⟨0, Nat.zero_le _, rfl, Below.refl _ _⟩
      case round =>
        obtain ⟨j, hj, rfl, hbj⟩ := hrel
        by_cases hjl : j < rs.length
        · obtain ⟨⟨rn, rc⟩, hr⟩ : ∃ r, rs[j]? = some r := ⟨rs[j], List.getElem?_eq_getElem hjl⟩
          obtain ⟨g, off, rfl, q0, q1⟩ := HTC.out j _ hr
          obtain ⟨g2, off2, rfl, q2, q3⟩ := HUC.out j _ hr
          have c0 := cell_later7 hbj (Nat.le_refl _) q0
          have c1 := cell_later7 hbj (Nat.le_refl _) q1
          have c2 := cell_later7 hbj (Nat.le_refl _) q2
          have c3 := cell_later7 hbj (Nat.le_refl _) q3
          simp only at c0 c1 c2 c3
          clear q0 q1 q2 q3 hr
          go_wp2
          go_quiet (fail)
          go_wp2
          go_roundw
          case rel => exact ⟨j + 1, by omega, by go_num, below_drewN hbj nq⟩
          case measure => simp [intOf]; omega
        · go_wp2
          go_ret
          exact ⟨rfl, g8.trans (hbj.mono g8.size)⟩
end Go.Proofs.Ytgdolopggocleaa
