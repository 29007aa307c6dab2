/- MapperOrder walked. -/
import Derived.Test.YtbkjcibfcpejfaaMapKnown
import Derived.Test.YtbkjcibfcpejfaaSubWith
namespace Go.Proofs.Ytbkjcibfcpejfaa
open Go.RowKit Go.Sort
set_option linter.unusedSimpArgs false
set_option linter.unusedVariables false

theorem khas {W : World} {p : Value} {L : List Int} (k : Nat) (b : Bool) (c : Int) (h : Sub W p L) (hl : L.length ≤ 20000) (hc : L[k]? = some c) (hb : decide (0 < c) = b) : Calls Try.prog 21 #[p, .int .i64 (k : Nat)] W fun e w' => e = .returned (.bool b) ∧ Below W.heap.size W w' := by
  have hk := (List.getElem?_eq_some_iff.1 hc).1
  have := has_any (k : Int) h (by omega) (by omega)
  rw [show cnt L (k : Int) = c from by unfold cnt; rw [if_neg (by omega), Int.toNat_natCast, hc]; rfl, hb] at this
  exact this
theorem klen {W : World} {p : Value} {L : List Int} (h : Sub W p L) (hl : L.length ≤ 20000) : Calls Try.prog 19 #[p] W fun e w' => e = .returned (.int .i64 (L.length : Nat)) ∧ Below W.heap.size W w' := len_any7 h (by omega)
theorem nx_beyond {L : List Int} {at0 : Int} (h : (L.length : Int) ≤ at0) : nx L at0 = L.length := nx_out (fun i hi => by have := zs_lt hi; omega)
set_option maxHeartbeats 4000000 in
set_option maxRecDepth 100000 in
theorem order9_any (zl : List Int) (v : Value) (w : World) (hv : NumAt .u8 w v zl) (hzs : ∀ z ∈ zl, 0 ≤ z ∧ z ≤ 255) (hl : zl.length ≤ 1048576) :
    Calls Try.prog 6 #[v] w fun e w' => e = .returned (.bool true) ∧ Below w.heap.size w w' := by
  have V0 := Hid.mk7 hv
  have HZS := Hid.mk7 hzs
  obtain ⟨a, cap, rfl, hcap, _⟩ := hv
  clear hzs
  have hLL : (zl.map f19).length = zl.length := by simp
  have HLL := Hid.mk7 hLL
  have HOK := Hid.mk7 (f19_all zl)
  obtain ⟨L, hL⟩ : ∃ L, zl.map f19 = L := ⟨_, rfl⟩
  have HRW : Hid (∀ W, NumAt .u8 W (.slice a zl.length cap) zl → Calls Try.prog 8 #[.slice a zl.length cap] W fun e w' => ∃ t, e = .returned t ∧ NumAt .i64 w' t L ∧ Below W.heap.size W w') := fun W h => by have := row9_any h HZS.out hl; rw [hL] at this; exact this
  rw [hL] at HLL HOK
  clear hLL hL HZS
  generalize zl.length = n0 at *
  by_cases h150 : 150 < n0
  · go_enter Try.func6, Try.ntmps6
    have d0 : decide ((150 : Int) < (n0 : Int)) = true := decide_eq_true (by omega)
    go_wp2_with fail
    refine (known9_any w).mono ?_
    rintro e w1 ⟨rfl, b1⟩
    have V1 := Hid.mk7 (V0.out.later b1)
    clear V0
    go_wp2_with fail
    refine (HRW.out _ V1.out).mono ?_
    rintro e w2 ⟨t, rfl, ht, b2⟩
    have T2 := Hid.mk7 ht
    have g2 := b1.trans (b2.mono b1.size)
    clear ht b1 b2
    go_wp2_with fail
    refine (made9_any T2.out HOK.out (by rw [HLL.out]; omega)).mono ?_
    rintro e w3 ⟨p, rfl, hp, b3⟩
    have g3 := g2.trans (b3.mono g2.size)
    clear hp b3 g2 T2 V1
    go_wp2
    go_ret
    exact ⟨rfl, g3⟩
  have d0 : decide ((150 : Int) < (n0 : Int)) = false := decide_eq_false (by omega)
  have d1 : decide (150 < n0) = false := decide_eq_false (by omega)
  have hL2 : L.length ≤ 150 := by rw [HLL.out]; omega
  have HOL : Hid (Ok8 L) := ⟨by omega, HOK.out⟩
  have HL20 : Hid (L.length ≤ 20000) := by show _ ≤ _; omega
  have HL2 := Hid.mk7 hL2
  clear HLL HOK hL2
  go_enter Try.func6, Try.ntmps6
  go_wp2_with fail
  refine (known9_any w).mono ?_
  rintro e w1 ⟨rfl, b1⟩
  have V1 := Hid.mk7 (V0.out.later b1)
  have g1 := b1
  clear V0 b1
  go_wp2_with fail
  refine (HRW.out _ V1.out).mono ?_
  rintro e w2 ⟨t, rfl, ht, b2⟩
  have T2 := Hid.mk7 ht
  have g2 := g1.trans (b2.mono g1.size)
  clear V1 g1 b2 ht
  go_wp2_with fail
  refine (made9_ok T2.out HOL.out (Nat.le_trans HL2.out (by omega))).mono ?_
  rintro e w3 ⟨p, rfl, hs, b3⟩
  have S3 := Hid.mk7 hs
  have g3 := g2.trans (b3.mono g2.size)
  obtain ⟨b, v0, rfl, _⟩ := id hs
  clear T2 g2 b3 hs
  obtain ⟨N, hN⟩ : ∃ N, N = L.length := ⟨_, rfl⟩
  have HN := Hid.mk7 hN
  have hN150 : N ≤ 150 := by rw [hN]; exact HL2.out
  have HLEN : Hid (∀ W, Sub W (.pointer (some ⟨b, 0, none⟩)) L → Calls Try.prog 19 #[.pointer (some ⟨b, 0, none⟩)] W fun e w' => e = .returned (.int .i64 (N : Nat)) ∧ Below W.heap.size W w') := fun W h => by rw [hN]; exact klen h HL20.out
  clear hN
  have g := g3
  clear g3
  go_wp2
  go_loopw [4] (fun iv wr => ∃ k : Nat, k ≤ N ∧ iv = .int .i64 (k : Nat) ∧ Hid (Sub wr (.pointer (some ⟨b, 0, none⟩)) L) ∧ Below w.heap.size w wr) (fun iv _ => N - (intOf iv).toNat)
  case atStart => exact ⟨0, Nat.zero_le _, rfl, S3, g⟩
  case round =>
    clear S3 g
    obtain ⟨k, hk, rfl, HS, hb⟩ := hrel
    by_cases hlt : k < N
    · obtain ⟨c, hc⟩ : ∃ c, L[k]? = some c := ⟨L[k]'(by rw [← HN.out]; exact hlt), List.getElem?_eq_getElem _⟩
      obtain ⟨D, hD⟩ : ∃ D, dn L (k : Int) = D := ⟨_, rfl⟩
      have hD2 : D ≤ 20000 := by rw [← hD]; exact Nat.le_trans (dn_le L k) HL20.out
      obtain ⟨X, hX⟩ : ∃ X, nx L (k : Int) = X := ⟨_, rfl⟩
      have hX1 : k ≤ X := by rw [← hX]; exact nx_ge (by rw [← HN.out]; omega)
      have hX2 : X ≤ 20000 := by rw [← hX]; exact Nat.le_trans (nx_le L k) HL20.out
      have dX : decide ((X : Int) < (k : Int)) = false := decide_eq_false (by omega)
      have dX2 : decide (X < k) = false := decide_eq_false (by omega)
      have hE := dn_one hc
      rw [hD] at hE
      have HD := Hid.mk7 hD
      have HX := Hid.mk7 hX
      have HC := Hid.mk7 hc
      have HE := Hid.mk7 hE
      clear hc hD hX hE
      by_cases hpos : 0 < c
      · have HB : Hid (decide (0 < c) = true) := decide_eq_true hpos
        have HE2 : Hid (dn L ((k : Int) + 1) = D) := by have := HE.out; rw [if_pos hpos] at this; exact this
        have HX2 : Hid (nx L ((k : Int) + 1) = X) := by show _ = _; rw [← nx_same HC.out hpos, HX.out]
        clear hpos HE
        go_wp2_with fail
        refine (HLEN.out _ HS.out).mono ?_
        rintro e w11 ⟨rfl, b11⟩
        have S11 := Hid.mk7 (HS.out.later b11)
        have g11 := hb.trans (b11.mono hb.size)
        clear HS hb b11
        go_wp2_with fail
        refine (kdown ((k : Int) + 1) D S11.out.n HL20.out HE2.out).mono ?_
        rintro e w12 ⟨rfl, b12⟩
        have S12 := Hid.mk7 (S11.out.later b12)
        have g12 := g11.trans (b12.mono g11.size)
        clear S11 g11 b12
        go_wp2_with fail
        refine (kdown k D S12.out.n HL20.out HD.out).mono ?_
        rintro e w13 ⟨rfl, b13⟩
        have S13 := Hid.mk7 (S12.out.later b13)
        have g13 := g12.trans (b13.mono g12.size)
        clear S12 g12 b13
        go_wp2_with fail
        refine (khas k true c S13.out HL20.out HC.out HB.out).mono ?_
        rintro e w14 ⟨rfl, b14⟩
        have S14 := Hid.mk7 (S13.out.later b14)
        have g14 := g13.trans (b14.mono g13.size)
        clear S13 g13 b14
        go_wp2_with fail
        refine (knext k X S14.out.n HL20.out HX.out).mono ?_
        rintro e w15 ⟨rfl, b15⟩
        have S15 := Hid.mk7 (S14.out.later b15)
        have g15 := g14.trans (b15.mono g14.size)
        clear S14 g14 b15
        go_wp2_with fail
        refine (khas k true c S15.out HL20.out HC.out HB.out).mono ?_
        rintro e w16 ⟨rfl, b16⟩
        have S16 := Hid.mk7 (S15.out.later b16)
        have g16 := g15.trans (b16.mono g15.size)
        clear S15 g15 b16
        go_wp2_with fail
        refine (knext k X S16.out.n HL20.out HX.out).mono ?_
        rintro e w17 ⟨rfl, b17⟩
        have S17 := Hid.mk7 (S16.out.later b17)
        have g17 := g16.trans (b17.mono g16.size)
        clear S16 g16 b17
        go_wp2_with fail
        refine (knext ((k : Int) + 1) X S17.out.n HL20.out HX2.out).mono ?_
        rintro e w18 ⟨rfl, b18⟩
        have S18 := Hid.mk7 (S17.out.later b18)
        have g18 := g17.trans (b18.mono g17.size)
        clear S17 g17 b18
        go_wp2
        go_roundw
        case rel => exact ⟨k + 1, by omega, by go_num, S18, g18⟩
        case measure => simp [intOf]; omega
      · have HB : Hid (decide (0 < c) = false) := decide_eq_false hpos
        obtain ⟨E, hE⟩ : ∃ E, E = D + 1 := ⟨_, rfl⟩
        have HE2 : Hid (dn L ((k : Int) + 1) = E) := by have := HE.out; rw [if_neg hpos] at this; rw [hE]; exact this
        have e1 : decide ((E : Int) - (D : Int) < 0) = false := decide_eq_false (by omega)
        have e2 : decide (1 < (E : Int) - (D : Int)) = false := decide_eq_false (by omega)
        have e3 : ((E : Int) - (D : Int) == 0) = false := by simp; omega
        have e4 : E ≤ 20001 := by omega
        clear hpos HE hE
        go_wp2_with fail
        refine (HLEN.out _ HS.out).mono ?_
        rintro e w11 ⟨rfl, b11⟩
        have S11 := Hid.mk7 (HS.out.later b11)
        have g11 := hb.trans (b11.mono hb.size)
        clear HS hb b11
        go_wp2_with fail
        refine (kdown ((k : Int) + 1) E S11.out.n HL20.out HE2.out).mono ?_
        rintro e w12 ⟨rfl, b12⟩
        have S12 := Hid.mk7 (S11.out.later b12)
        have g12 := g11.trans (b12.mono g11.size)
        clear S11 g11 b12
        go_wp2_with fail
        refine (kdown k D S12.out.n HL20.out HD.out).mono ?_
        rintro e w13 ⟨rfl, b13⟩
        have S13 := Hid.mk7 (S12.out.later b13)
        have g13 := g12.trans (b13.mono g12.size)
        clear S12 g12 b13
        go_wp2_with fail
        refine (khas k false c S13.out HL20.out HC.out HB.out).mono ?_
        rintro e w14 ⟨rfl, b14⟩
        have S14 := Hid.mk7 (S13.out.later b14)
        have g14 := g13.trans (b14.mono g13.size)
        clear S13 g13 b14
        go_wp2_with fail
        refine (knext k X S14.out.n HL20.out HX.out).mono ?_
        rintro e w15 ⟨rfl, b15⟩
        have S15 := Hid.mk7 (S14.out.later b15)
        have g15 := g14.trans (b15.mono g14.size)
        clear S14 g14 b15
        go_wp2_with fail
        refine (khas k false c S15.out HL20.out HC.out HB.out).mono ?_
        rintro e w16 ⟨rfl, b16⟩
        have S16 := Hid.mk7 (S15.out.later b16)
        have g16 := g15.trans (b16.mono g15.size)
        clear S15 g15 b16
        go_wp2
        go_roundw
        case rel => exact ⟨k + 1, by omega, by go_num, S16, g16⟩
        case measure => simp [intOf]; omega
    · obtain rfl : k = N := by omega
      obtain ⟨U, hU⟩ : ∃ U, up L 0 = U := ⟨_, rfl⟩
      have HU0 := Hid.mk7 hU
      have HU3 : Hid (up L (-3) = U) := by show _ = _; rw [up_held]; exact hU
      have HNX : Hid (nx L ((k : Int) + 5) = k) := by show _ = _; rw [nx_beyond (by rw [← HN.out]; omega), HN.out]
      clear hU
      go_wp2_with fail
      refine (HLEN.out _ HS.out).mono ?_
      rintro e w11 ⟨rfl, b11⟩
      have S11 := Hid.mk7 (HS.out.later b11)
      have g11 := hb.trans (b11.mono hb.size)
      clear HS hb b11
      go_wp2_with fail
      refine (kdown (-5) 0 S11.out.n HL20.out (dn_neg L (-5) (by omega))).mono ?_
      rintro e w12 ⟨rfl, b12⟩
      have S12 := Hid.mk7 (S11.out.later b12)
      have g12 := g11.trans (b12.mono g11.size)
      clear S11 g11 b12
      go_wp2_with fail
      refine (HLEN.out _ S12.out).mono ?_
      rintro e w13 ⟨rfl, b13⟩
      have S13 := Hid.mk7 (S12.out.later b13)
      have g13 := g12.trans (b13.mono g12.size)
      clear S12 g12 b13
      go_wp2_with fail
      refine (knext ((k : Int) + 5) k S13.out.n HL20.out HNX.out).mono ?_
      rintro e w14 ⟨rfl, b14⟩
      have S14 := Hid.mk7 (S13.out.later b14)
      have g14 := g13.trans (b14.mono g13.size)
      clear S13 g13 b14
      go_wp2_with fail
      refine (HLEN.out _ S14.out).mono ?_
      rintro e w15 ⟨rfl, b15⟩
      have S15 := Hid.mk7 (S14.out.later b15)
      have g15 := g14.trans (b15.mono g14.size)
      clear S14 g14 b15
      go_wp2_with fail
      refine (kup (-3) U S15.out.n HL20.out (by omega) HU3.out).mono ?_
      rintro e w16 ⟨rfl, b16⟩
      have S16 := Hid.mk7 (S15.out.later b16)
      have g16 := g15.trans (b16.mono g15.size)
      clear S15 g15 b16
      go_wp2_with fail
      refine (kup 0 U S16.out.n HL20.out (by omega) HU0.out).mono ?_
      rintro e w17 ⟨rfl, b17⟩
      have S17 := Hid.mk7 (S16.out.later b17)
      have g17 := g16.trans (b17.mono g16.size)
      clear S16 g16 b17
      go_wp2
      go_ret
      exact ⟨rfl, g17⟩
end Go.Proofs.Ytbkjcibfcpejfaa
