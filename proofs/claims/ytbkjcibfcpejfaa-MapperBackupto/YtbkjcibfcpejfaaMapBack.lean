/- MapperBack walked. -/
import Derived.Test.YtbkjcibfcpejfaaMapOrder
import Derived.Test.YtbkjcibfcpejfaaMapBackM
namespace Go.Proofs.Ytbkjcibfcpejfaa
open Go.RowKit Go.Sort
set_option linter.unusedSimpArgs false
set_option linter.unusedVariables false

theorem ksize {W : World} {p : Value} {L : List Int} (h : Sub W p L) (hl : L.length ≤ 20000) : Calls Try.prog 20 #[p] W fun e w' => e = .returned (.int .i64 (szc L : Nat)) ∧ Below W.heap.size W w' := size_any7 h (by omega)
theorem up_all (L : List Int) : up L ((zs L).length : Nat) = L.length := by
  unfold up
  rw [Int.toNat_natCast, List.getElem?_eq_none (Nat.le_refl _)]; rfl
theorem sg_cells {w : World} {a : Option Addr} {n cap : Nat} {rs : List Sg} (h : SgAt w (.slice a n cap) rs) : n = rs.length ∧ rs.length ≤ cap ∧ ∀ i r, rs[i]? = some r → ∃ g off, a = some ⟨g, off, none⟩ ∧ w.cell? ⟨g, off + i * 2, none⟩ = some (.int .i64 r.1) ∧ w.cell? ⟨g, off + i * 2 + 1, none⟩ = some (.int .i64 r.2) := by
  obtain ⟨a', cap', e, h1, _, h2⟩ := h
  cases e
  exact ⟨rfl, h1, h2⟩
set_option maxHeartbeats 4000000 in
set_option maxRecDepth 100000 in
theorem back9_any (zl : List Int) (v : Value) (w : World) (hv : NumAt .u8 w v zl) (hzs : ∀ z ∈ zl, 0 ≤ z ∧ z ≤ 255) (hl : zl.length ≤ 1048576) :
    Calls Try.prog 4 #[v] w fun e w' => e = .returned (.bool true) ∧ Below w.heap.size w w' := by
  have V0 := Hid.mk7 hv
  have HZS := Hid.mk7 hzs
  obtain ⟨a, cap, rfl, hcap, _⟩ := hv
  clear hzs
  have hLL : (zl.map f19).length = zl.length := by simp
  have HLL := Hid.mk7 hLL
  have HOK := Hid.mk7 (f19_all zl)
  obtain ⟨L, hL⟩ : ∃ L, zl.map f19 = L := ⟨_, rfl⟩
  have HRW : Hid (∀ W, NumAt .u8 W (.slice a zl.length cap) zl → Calls Try.prog 8 #[.slice a zl.length cap] W fun e w' => ∃ t, e = .returned t ∧ NumAt .i64 w' t L ∧ Below W.heap.size W w') := fun W h => by have := row9_any h HZS.out hl; rw [hL] at this; exact this
  rw [hL] at HLL HOK
  clear hLL hL HZS
  generalize zl.length = n0 at *
  by_cases h150 : 150 < n0
  · go_enter Try.func4, Try.ntmps4
    have d0 : decide ((150 : Int) < (n0 : Int)) = true := decide_eq_true (by omega)
    go_wp2_with fail
    refine (known9_any w).mono ?_
    rintro e w1 ⟨rfl, b1⟩
    have V1 := Hid.mk7 (V0.out.later b1)
    clear V0
    go_wp2_with fail
    refine (HRW.out _ V1.out).mono ?_
    rintro e w2 ⟨t, rfl, ht, b2⟩
    have T2 := Hid.mk7 ht
    have g2 := b1.trans (b2.mono b1.size)
    clear ht b1 b2
    go_wp2_with fail
    refine (made9_any T2.out HOK.out (by rw [HLL.out]; omega)).mono ?_
    rintro e w3 ⟨p, rfl, hp, b3⟩
    have g3 := g2.trans (b3.mono g2.size)
    clear hp b3 g2 T2 V1
    go_wp2
    go_ret
    exact ⟨rfl, g3⟩
  have d0 : decide ((150 : Int) < (n0 : Int)) = false := decide_eq_false (by omega)
  have d1 : decide (150 < n0) = false := decide_eq_false (by omega)
  have hL2 : L.length ≤ 150 := by rw [HLL.out]; omega
  have HOL : Hid (Ok8 L) := ⟨by omega, HOK.out⟩
  have HL20 : Hid (L.length ≤ 20000) := by show _ ≤ _; omega
  have HL2 := Hid.mk7 hL2
  clear HLL HOK hL2
  obtain ⟨N, hN⟩ : ∃ N, N = L.length := ⟨_, rfl⟩
  obtain ⟨Z, hZ⟩ : ∃ Z, Z = szc L := ⟨_, rfl⟩
  obtain ⟨Q, hQ⟩ : ∃ Q, Q = (zs L).length := ⟨_, rfl⟩
  have hN150 : N ≤ 150 := by rw [hN]; exact HL2.out
  have hNZ : Q + Z = N := by rw [hN, hZ, hQ]; exact zs_size L
  have hNQ : (N : Int) - (Z : Int) = (Q : Int) := by omega
  have hQ150 : Q ≤ 150 := by omega
  have hZ150 : Z ≤ 150 := by omega
  have HN := Hid.mk7 hN
  have HQ := Hid.mk7 hQ
  have HLEN : Hid (∀ (W : World) (p : Value), Sub W p L → Calls Try.prog 19 #[p] W fun e w' => e = .returned (.int .i64 (N : Nat)) ∧ Below W.heap.size W w') := fun W p h => by rw [hN]; exact klen h HL20.out
  have HSZ : Hid (∀ (W : World) (p : Value), Sub W p L → Calls Try.prog 20 #[p] W fun e w' => e = .returned (.int .i64 (Z : Nat)) ∧ Below W.heap.size W w') := fun W p h => by rw [hZ]; exact ksize h HL20.out
  clear hN hZ hQ hNZ
  go_enter Try.func4, Try.ntmps4
  go_wp2_with fail
  refine (known9_any w).mono ?_
  rintro e w1 ⟨rfl, b1⟩
  have V1 := Hid.mk7 (V0.out.later b1)
  have g1 := b1
  clear V0 b1
  go_wp2_with fail
  refine (HRW.out _ V1.out).mono ?_
  rintro e w2 ⟨t, rfl, ht, b2⟩
  have T2 := Hid.mk7 ht
  have g2 := g1.trans (b2.mono g1.size)
  clear V1 g1 b2 ht
  go_wp2_with fail
  refine (made9_ok T2.out HOL.out (Nat.le_trans HL2.out (by omega))).mono ?_
  rintro e w3 ⟨p, rfl, hs, b3⟩
  have S3 := Hid.mk7 hs
  have g3 := g2.trans (b3.mono g2.size)
  obtain ⟨b, v0, rfl, _⟩ := id hs
  clear T2 g2 b3 hs
  go_wp2_with fail
  refine (HLEN.out _ _ S3.out).mono ?_
  rintro e w4 ⟨rfl, b4⟩
  have S4 := Hid.mk7 (S3.out.later b4)
  have g4 := g3.trans (b4.mono g3.size)
  clear S3 g3 b4
  go_wp2_with fail
  refine (HSZ.out _ _ S4.out).mono ?_
  rintro e w5 ⟨rfl, b5⟩
  have S5 := Hid.mk7 (S4.out.later b5)
  have g5 := g4.trans (b5.mono g4.size)
  clear S4 g4 b5
  have g := g5
  clear g5
  go_wp2
  go_loopw [5] (fun iv wr => ∃ k : Nat, k ≤ Q ∧ iv = .int .i64 (k : Nat) ∧ Hid (Sub wr (.pointer (some ⟨b, 0, none⟩)) L) ∧ Below w.heap.size w wr) (fun iv _ => Q - (intOf iv).toNat)
  case atStart => exact ⟨0, Nat.zero_le _, rfl, S5, g⟩
  case round =>
    clear S5 g
    obtain ⟨k, hk, rfl, HS, hb⟩ := hrel
    by_cases hlt : k < Q
    · obtain ⟨u, c, q1, q2, q3, q4, q5, q6, q7⟩ := up_back (L := L) (i := k) (by rw [← HQ.out]; exact hlt)
      have hu : u ≤ 150 := by have := HL2.out; omega
      have Q1 := Hid.mk7 q1
      have Q3 := Hid.mk7 q3
      have Q4 : Hid (decide (0 < c) = false) := decide_eq_false q4
      have Q5 := Hid.mk7 q5
      have Q6 := Hid.mk7 q6
      have Q7 := Hid.mk7 q7
      clear q1 q2 q3 q4 q5 q6 q7
      go_wp2_with fail
      refine (kup k u HS.out.n HL20.out (by omega) Q1.out).mono ?_
      rintro e w11 ⟨rfl, b11⟩
      have S11 := Hid.mk7 (HS.out.later b11)
      have g11 := hb.trans (b11.mono hb.size)
      clear HS hb b11
      go_wp2_with fail
      refine (khas u false c S11.out HL20.out Q3.out Q4.out).mono ?_
      rintro e w12 ⟨rfl, b12⟩
      have S12 := Hid.mk7 (S11.out.later b12)
      have g12 := g11.trans (b12.mono g11.size)
      clear S11 g11 b12
      go_wp2_with fail
      refine (kdown u k S12.out.n HL20.out Q5.out).mono ?_
      rintro e w13 ⟨rfl, b13⟩
      have S13 := Hid.mk7 (S12.out.later b13)
      have g13 := g12.trans (b13.mono g12.size)
      clear S12 g12 b13
      go_wp2_with fail
      refine (kdown ((u : Int) + 1) (k + 1) S13.out.n HL20.out Q6.out).mono ?_
      rintro e w14 ⟨rfl, b14⟩
      have S14 := Hid.mk7 (S13.out.later b14)
      have g14 := g13.trans (b14.mono g13.size)
      clear S13 g13 b14
      go_wp2_with fail
      refine (knext u u S14.out.n HL20.out Q7.out).mono ?_
      rintro e w15 ⟨rfl, b15⟩
      have S15 := Hid.mk7 (S14.out.later b15)
      have g15 := g14.trans (b15.mono g14.size)
      clear S14 g14 b15
      go_wp2
      go_roundw
      case rel => exact ⟨k + 1, by omega, by go_num, S15, g15⟩
      case measure => simp [intOf]; omega
    · obtain rfl : k = Q := by omega
      obtain ⟨R, hR⟩ : ∃ R, R = rle (L.map sg9) := ⟨_, rfl⟩
      have HPOS : Hid (∀ r ∈ R, 1 ≤ r.1) := fun r hr => rle_pos (by rw [hR] at hr; exact hr)
      have HTOT : Hid (tot R = (N : Int)) := by show _ = _; rw [tot_xp HPOS.out, hR, xp_rle, List.length_map, HN.out]
      have HRT : Hid (rn true L = ivf true 0 R) := by show _ = _; rw [hR]; exact rn_ivf true L
      have HRF : Hid (rn false L = ivf false 0 R) := by show _ = _; rw [hR]; exact rn_ivf false L
      have hlA : (ivf true 0 R).length ≤ 150 := by rw [← HRT.out]; exact Nat.le_trans (rn_len _ L) HL2.out
      have hlB : (ivf false 0 R).length ≤ 150 := by rw [← HRF.out]; exact Nat.le_trans (rn_len _ L) HL2.out
      clear hR
      go_wp2_with fail
      refine (kruns true (ivf true 0 R) HS.out.n HL20.out HRT.out).mono ?_
      rintro e w21 ⟨av, rfl, ha, b21⟩
      have S21 := Hid.mk7 (HS.out.later b21)
      have A21 := Hid.mk7 ha
      have g21 := hb.trans (b21.mono hb.size)
      clear HS hb b21 ha
      go_wp2_with fail
      refine (kruns false (ivf false 0 R) S21.out.n HL20.out HRF.out).mono ?_
      rintro e w22 ⟨bv, rfl, hbb, b22⟩
      have S22 := Hid.mk7 (S21.out.later b22)
      have A22 := Hid.mk7 (A21.out.later b22)
      have B22 := Hid.mk7 hbb
      have g22 := g21.trans (b22.mono g21.size)
      clear S21 A21 g21 b22 hbb
      obtain ⟨aa, acap, rfl, hacap, _, hacells⟩ := id A22.out
      obtain ⟨ba, bcap, rfl, hbcap, _, hbcells⟩ := id B22.out
      have HAC := Hid.mk7 hacells
      have HBC := Hid.mk7 hbcells
      have HLA : Hid ((ivf true 0 R).length = nI true R R.length) := (nI_all true R).symm
      have HLB : Hid ((ivf false 0 R).length = nI false R R.length) := (nI_all false R).symm
      have HSUM := Hid.mk7 (nI_sum R)
      have HSTEP : Hid (∀ i k : Nat, i + k < R.length → i = nI true R (i + k) → k = nI false R (i + k) → ∃ t, tot (R.take (i + k)) < t ∧ t = tot (R.take (i + k + 1)) ∧
        (((ivf true 0 R)[i]? = some (tot (R.take (i + k)), t) ∧ i + 1 = nI true R (i + k + 1) ∧ k = nI false R (i + k + 1)) ∨
         ((ivf false 0 R)[k]? = some (tot (R.take (i + k)), t) ∧ i = nI true R (i + k + 1) ∧ k + 1 = nI false R (i + k + 1) ∧ ∀ f u, (ivf true 0 R)[i]? = some (f, u) → f ≠ tot (R.take (i + k))))) := fun i k hj hi hk => both_step HPOS.out hj hi hk
      have HTN : Hid (∀ j, 0 ≤ tot (R.take j) ∧ tot (R.take j) ≤ (N : Int)) := fun j => by have := tot_nonneg HPOS.out j; rw [HTOT.out] at this; exact this
      clear hacells hbcells A22 B22 HRT HRF
      obtain ⟨AL, hAL⟩ : ∃ AL, AL = ivf true 0 R := ⟨_, rfl⟩
      obtain ⟨BL, hBL⟩ : ∃ BL, BL = ivf false 0 R := ⟨_, rfl⟩
      rw [← hAL] at HAC HLA HSTEP hacap hlA ⊢
      rw [← hBL] at HBC HLB HSTEP hbcap hlB ⊢
      clear hAL hBL
      go_wp2
      go_loopw [9, 10, 11] (fun tv iv kv wr2 => ∃ T i k : Nat, i + k ≤ R.length ∧ tv = .int .i64 (T : Nat) ∧ iv = .int .i64 (i : Nat) ∧ kv = .int .i64 (k : Nat) ∧ Hid ((T : Int) = tot (R.take (i + k))) ∧ Hid (i = nI true R (i + k)) ∧ Hid (k = nI false R (i + k)) ∧ T ≤ 150 ∧ wr2 = w22) (fun _ iv kv _ => R.length - ((intOf iv).toNat + (intOf kv).toNat))
      case atStart => exact ⟨0, 0, 0, Nat.zero_le _, rfl, rfl, rfl, rfl, rfl, rfl, by omega, rfl⟩
      case round =>
        obtain ⟨T, i, k2, hj, rfl, rfl, rfl, HT, HI, HK, hT, rfl⟩ := hrel
        by_cases hlt2 : i + k2 < R.length
        · obtain ⟨t, ht1, ht2, hcase⟩ := HSTEP.out i k2 hlt2 HI.out HK.out
          have hb2 := HTN.out (i + k2 + 1)
          rw [← ht2] at hb2
          rw [← HT.out] at ht1 hcase
          obtain ⟨t', rfl⟩ : ∃ t' : Nat, t = (t' : Int) := ⟨t.toNat, by omega⟩
          have HT2 := Hid.mk7 ht2
          have ht150 : t' ≤ 150 := by omega
          clear ht2 HT HI HK
          rcases hcase with ⟨e1, e2, e3⟩ | ⟨e1, e2, e3, e4⟩
          · have hil := (List.getElem?_eq_some_iff.1 e1).1
            obtain ⟨g, off, rfl, c0, c1⟩ := HAC.out i _ e1
            simp only at c0 c1
            have E2 := Hid.mk7 e2
            have E3 := Hid.mk7 e3
            clear e1 e2 e3 ht1 hb2
            go_wp2
            go_roundw
            case rel => exact ⟨t', i + 1, k2, by omega, by go_num, by go_num, by go_num, by rw [show i + 1 + k2 = i + k2 + 1 from by omega]; exact HT2, by rw [show i + 1 + k2 = i + k2 + 1 from by omega]; exact E2, by rw [show i + 1 + k2 = i + k2 + 1 from by omega]; exact E3, ht150, by trivial⟩
            case measure => simp [intOf]; omega
          · have hkl := (List.getElem?_eq_some_iff.1 e1).1
            obtain ⟨g, off, rfl, c0, c1⟩ := HBC.out k2 _ e1
            simp only at c0 c1
            have E2 := Hid.mk7 e2
            have E3 := Hid.mk7 e3
            have E4 := Hid.mk7 e4
            clear e1 e2 e3 e4 ht1 hb2
            by_cases hil : i < AL.length
            · obtain ⟨⟨f, u⟩, hfu⟩ : ∃ r, AL[i]? = some r := ⟨AL[i], List.getElem?_eq_getElem hil⟩
              obtain ⟨g2, off2, rfl, c2, c3⟩ := HAC.out i _ hfu
              simp only at c2 c3
              have hne := E4.out f u hfu
              have d2 : (f == (T : Int)) = false := by simpa using hne
              have d3 : decide (f = (T : Int)) = false := by simpa using hne
              clear hfu E4 hne
              go_wp2
              go_roundw
              case rel => exact ⟨t', i, k2 + 1, by omega, by go_num, by go_num, by go_num, HT2, E2, E3, ht150, by trivial⟩
              case measure => simp [intOf]; omega
            · have d2 : decide ((i : Int) < (AL.length : Int)) = false := decide_eq_false (by omega)
              have d3 : decide (i < AL.length) = false := decide_eq_false (by omega)
              clear E4
              go_wp2
              go_roundw
              case rel => exact ⟨t', i, k2 + 1, by omega, by go_num, by go_num, by go_num, HT2, E2, E3, ht150, by trivial⟩
              case measure => simp [intOf]; omega
        · have hje : i + k2 = R.length := by omega
          have hTN : T = N := by
            have h1 := HT.out
            rw [hje, List.take_length, HTOT.out] at h1
            omega
          have hiA : AL.length = i := by
            have h1 := HI.out
            rw [hje] at h1
            rw [HLA.out]; exact h1.symm
          have hkB : BL.length = k2 := by
            have h1 := HK.out
            rw [hje] at h1
            rw [HLB.out]; exact h1.symm
          clear HI HK HT HSTEP HAC HBC HLA HLB
          subst hTN
          subst hiA
          subst hkB
          have HUP : Hid (up L (k : Int) = T) := by show _ = _; rw [HQ.out, HN.out]; exact up_all L
          have HDN : Hid (dn L (T : Int) = k) := by show _ = _; rw [HQ.out, HN.out]; exact dn_all L
          go_wp2_with fail
          refine (HLEN.out _ _ S22.out).mono ?_
          rintro e w23 ⟨rfl, b23⟩
          have S23 := Hid.mk7 (S22.out.later b23)
          have g23 := g22.trans (b23.mono g22.size)
          clear S22 g22 b23
          go_wp2_with fail
          refine (kup k T S23.out.n HL20.out (by omega) HUP.out).mono ?_
          rintro e w24 ⟨rfl, b24⟩
          have S24 := Hid.mk7 (S23.out.later b24)
          have g24 := g23.trans (b24.mono g23.size)
          clear S23 g23 b24
          go_wp2_with fail
          refine (HLEN.out _ _ S24.out).mono ?_
          rintro e w25 ⟨rfl, b25⟩
          have S25 := Hid.mk7 (S24.out.later b25)
          have g25 := g24.trans (b25.mono g24.size)
          clear S24 g24 b25
          go_wp2_with fail
          refine (HLEN.out _ _ S25.out).mono ?_
          rintro e w26 ⟨rfl, b26⟩
          have S26 := Hid.mk7 (S25.out.later b26)
          have g26 := g25.trans (b26.mono g25.size)
          clear S25 g25 b26
          go_wp2_with fail
          refine (kdown T k S26.out.n HL20.out HDN.out).mono ?_
          rintro e w27 ⟨rfl, b27⟩
          have S27 := Hid.mk7 (S26.out.later b27)
          have g27 := g26.trans (b27.mono g26.size)
          clear S26 g26 b27
          go_wp2
          go_ret
          exact ⟨rfl, g27⟩
end Go.Proofs.Ytbkjcibfcpejfaa
