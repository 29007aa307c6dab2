/- MapperTells walked. -/
import Derived.Test.YtbkjcibfcpejfaaMapKnown
namespace Go.Proofs.Ytbkjcibfcpejfaa
open Go.RowKit Go.Sort
set_option linter.unusedSimpArgs false
set_option linter.unusedVariables false

theorem krdown {W : World} {v : Value} {L : List Int} (at0 : Int) (x : Nat) (h : NumAt .i64 W v L) (hL : Ok8 L) (hx : dn L at0 = x) : Calls Try.prog 11 #[v, .int .i64 at0] W fun e w' => e = .returned (.int .i64 (x : Nat)) ∧ Below W.heap.size W w' := by
  subst hx
  refine (refdown_any at0 h hL).mono ?_
  rintro e w' ⟨rfl, rfl⟩
  exact ⟨rfl, Below.refl _ _⟩
theorem krup {W : World} {v : Value} {L : List Int} (at0 : Int) (x : Nat) (h : NumAt .i64 W v L) (hL : Ok8 L) (hhi : at0 ≤ 9223372036854775807) (hx : up L at0 = x) : Calls Try.prog 13 #[v, .int .i64 at0] W fun e w' => e = .returned (.int .i64 (x : Nat)) ∧ Below W.heap.size W w' := by
  subst hx
  refine (refup_any at0 h hL hhi).mono ?_
  rintro e w' ⟨rfl, rfl⟩
  exact ⟨rfl, Below.refl _ _⟩
theorem krnext {W : World} {v : Value} {L : List Int} (at0 : Int) (x : Nat) (h : NumAt .i64 W v L) (hL : Ok8 L) (hhi : at0 ≤ 9223372036854775807) (hx : nx L at0 = x) : Calls Try.prog 15 #[v, .int .i64 at0] W fun e w' => e = .returned (.int .i64 (x : Nat)) ∧ Below W.heap.size W w' := by
  subst hx
  refine (refnext_any at0 h hL hhi).mono ?_
  rintro e w' ⟨rfl, rfl⟩
  exact ⟨rfl, Below.refl _ _⟩
set_option maxHeartbeats 4000000 in
set_option maxRecDepth 100000 in
theorem tells9_any (zl : List Int) (v : Value) (at0 : Int) (w : World) (hv : NumAt .u8 w v zl) (hzs : ∀ z ∈ zl, 0 ≤ z ∧ z ≤ 255) (hl : zl.length ≤ 1048576) (hat : at0 ≤ 9223372036854775807) :
    Calls Try.prog 3 #[v, .int .i64 at0] w fun e w' => e = .returned (.bool true) ∧ Below w.heap.size w w' := by
  have V0 := Hid.mk7 hv
  have HZS := Hid.mk7 hzs
  obtain ⟨a, cap, rfl, hcap, _⟩ := hv
  clear hzs
  have hLL : (zl.map f19).length = zl.length := by simp
  have HLL := Hid.mk7 hLL
  have HOK := Hid.mk7 (f19_all zl)
  obtain ⟨L, hL⟩ : ∃ L, zl.map f19 = L := ⟨_, rfl⟩
  have HRW : Hid (∀ W, NumAt .u8 W (.slice a zl.length cap) zl → Calls Try.prog 8 #[.slice a zl.length cap] W fun e w' => ∃ t, e = .returned t ∧ NumAt .i64 w' t L ∧ Below W.heap.size W w') := fun W h => by have := row9_any h HZS.out hl; rw [hL] at this; exact this
  rw [hL] at HLL HOK
  clear hLL hL HZS
  generalize zl.length = n0 at *
  by_cases h150 : 150 < n0
  · go_enter Try.func3, Try.ntmps3
    have d0 : decide ((150 : Int) < (n0 : Int)) = true := decide_eq_true (by omega)
    go_wp2_with fail
    refine (known9_any w).mono ?_
    rintro e w1 ⟨rfl, b1⟩
    have V1 := Hid.mk7 (V0.out.later b1)
    clear V0
    go_wp2_with fail
    refine (HRW.out _ V1.out).mono ?_
    rintro e w2 ⟨t, rfl, ht, b2⟩
    have T2 := Hid.mk7 ht
    have g2 := b1.trans (b2.mono b1.size)
    clear ht b1 b2
    go_wp2_with fail
    refine (made9_any T2.out HOK.out (by rw [HLL.out]; omega)).mono ?_
    rintro e w3 ⟨p, rfl, hp, b3⟩
    have g3 := g2.trans (b3.mono g2.size)
    clear hp b3 g2 T2 V1
    go_wp2
    go_ret
    exact ⟨rfl, g3⟩
  have d0 : decide ((150 : Int) < (n0 : Int)) = false := decide_eq_false (by omega)
  have d1 : decide (150 < n0) = false := decide_eq_false (by omega)
  have hL2 : L.length ≤ 150 := by rw [HLL.out]; omega
  have HOL : Hid (Ok8 L) := ⟨by omega, HOK.out⟩
  have HL20 : Hid (L.length ≤ 20000) := by show _ ≤ _; omega
  have HL2 := Hid.mk7 hL2
  clear HLL HOK hL2
  obtain ⟨D, hD⟩ : ∃ D, dn L at0 = D := ⟨_, rfl⟩
  obtain ⟨U, hU⟩ : ∃ U, up L at0 = U := ⟨_, rfl⟩
  obtain ⟨X, hX⟩ : ∃ X, nx L at0 = X := ⟨_, rfl⟩
  obtain ⟨RT, hRT⟩ : ∃ R, rn true L = R := ⟨_, rfl⟩
  obtain ⟨RF, hRF⟩ : ∃ R, rn false L = R := ⟨_, rfl⟩
  have hlT : RT.length ≤ 20000 := by rw [← hRT]; exact Nat.le_trans (rn_len _ L) HL20.out
  have hlF : RF.length ≤ 20000 := by rw [← hRF]; exact Nat.le_trans (rn_len _ L) HL20.out
  have HD := Hid.mk7 hD
  have HU := Hid.mk7 hU
  have HX := Hid.mk7 hX
  have HRT := Hid.mk7 hRT
  have HRF := Hid.mk7 hRF
  clear hD hU hX hRT hRF
  go_enter Try.func3, Try.ntmps3
  go_wp2_with fail
  refine (known9_any w).mono ?_
  rintro e w1 ⟨rfl, b1⟩
  have V1 := Hid.mk7 (V0.out.later b1)
  have g1 := b1
  clear V0 b1
  go_wp2_with fail
  refine (HRW.out _ V1.out).mono ?_
  rintro e w2 ⟨t, rfl, ht, b2⟩
  have T2 := Hid.mk7 ht
  have g2 := g1.trans (b2.mono g1.size)
  clear V1 g1 b2 ht
  go_wp2_with fail
  refine (made9_ok T2.out HOL.out (Nat.le_trans HL2.out (by omega))).mono ?_
  rintro e w3 ⟨p, rfl, hs, b3⟩
  have T3 := Hid.mk7 (T2.out.later b3)
  have S3 := Hid.mk7 hs
  have g3 := g2.trans (b3.mono g2.size)
  obtain ⟨b, v0, rfl, _⟩ := id hs
  clear T2 g2 b3 hs
  go_wp2_with fail
  refine (kdown at0 D S3.out.n HL20.out HD.out).mono ?_
  rintro e w4 ⟨rfl, b4⟩
  have T4 := Hid.mk7 (T3.out.later b4)
  have S4 := Hid.mk7 (S3.out.later b4)
  have g4 := g3.trans (b4.mono g3.size)
  clear T3 S3 g3 b4
  go_wp2_with fail
  refine (krdown at0 D T4.out HOL.out HD.out).mono ?_
  rintro e w5 ⟨rfl, b5⟩
  have T5 := Hid.mk7 (T4.out.later b5)
  have S5 := Hid.mk7 (S4.out.later b5)
  have g5 := g4.trans (b5.mono g4.size)
  clear T4 S4 g4 b5
  go_wp2_with fail
  refine (kup at0 U S5.out.n HL20.out hat HU.out).mono ?_
  rintro e w6 ⟨rfl, b6⟩
  have T6 := Hid.mk7 (T5.out.later b6)
  have S6 := Hid.mk7 (S5.out.later b6)
  have g6 := g5.trans (b6.mono g5.size)
  clear T5 S5 g5 b6
  go_wp2_with fail
  refine (krup at0 U T6.out HOL.out hat HU.out).mono ?_
  rintro e w7 ⟨rfl, b7⟩
  have T7 := Hid.mk7 (T6.out.later b7)
  have S7 := Hid.mk7 (S6.out.later b7)
  have g7 := g6.trans (b7.mono g6.size)
  clear T6 S6 g6 b7
  go_wp2_with fail
  refine (knext at0 X S7.out.n HL20.out HX.out).mono ?_
  rintro e w8 ⟨rfl, b8⟩
  have T8 := Hid.mk7 (T7.out.later b8)
  have S8 := Hid.mk7 (S7.out.later b8)
  have g8 := g7.trans (b8.mono g7.size)
  clear T7 S7 g7 b8
  go_wp2_with fail
  refine (krnext at0 X T8.out HOL.out hat HX.out).mono ?_
  rintro e w9 ⟨rfl, b9⟩
  have T9 := Hid.mk7 (T8.out.later b9)
  have S9 := Hid.mk7 (S8.out.later b9)
  have g9 := g8.trans (b9.mono g8.size)
  clear T8 S8 g8 b9
  go_wp2_with fail
  refine (kruns true RT S9.out.n HL20.out HRT.out).mono ?_
  rintro e w10 ⟨rv, rfl, hr, b10⟩
  have T10 := Hid.mk7 (T9.out.later b10)
  have S10 := Hid.mk7 (S9.out.later b10)
  have A10 := Hid.mk7 hr
  have g10 := g9.trans (b10.mono g9.size)
  clear T9 S9 g9 b10 hr
  go_wp2_with fail
  refine (refruns_any true T10.out HL20.out).mono ?_
  rintro e w11 ⟨rw, rfl, hrw, b11⟩
  have T11 := Hid.mk7 (T10.out.later b11)
  have S11 := Hid.mk7 (S10.out.later b11)
  have A11 := Hid.mk7 (A10.out.later b11)
  have B11 := Hid.mk7 hrw
  have g11 := g10.trans (b11.mono g10.size)
  clear T10 S10 A10 g10 b11 hrw
  rw [HRT.out] at B11
  go_wp2_with fail
  refine (same9_any A11.out B11.out (by omega)).mono ?_
  rintro e w12 ⟨rfl, b12⟩
  have T12 := Hid.mk7 (T11.out.later b12)
  have S12 := Hid.mk7 (S11.out.later b12)
  have g12 := g11.trans (b12.mono g11.size)
  clear A11 B11 T11 S11 g11 b12
  go_wp2_with fail
  refine (kruns false RF S12.out.n HL20.out HRF.out).mono ?_
  rintro e w13 ⟨rv, rfl, hr, b13⟩
  have T13 := Hid.mk7 (T12.out.later b13)
  have S13 := Hid.mk7 (S12.out.later b13)
  have A13 := Hid.mk7 hr
  have g13 := g12.trans (b13.mono g12.size)
  clear T12 S12 g12 b13 hr
  go_wp2_with fail
  refine (refruns_any false T13.out HL20.out).mono ?_
  rintro e w14 ⟨rw, rfl, hrw, b14⟩
  have T14 := Hid.mk7 (T13.out.later b14)
  have S14 := Hid.mk7 (S13.out.later b14)
  have A14 := Hid.mk7 (A13.out.later b14)
  have B14 := Hid.mk7 hrw
  have g14 := g13.trans (b14.mono g13.size)
  clear T13 S13 A13 g13 b14 hrw
  rw [HRF.out] at B14
  go_wp2_with fail
  refine (same9_any A14.out B14.out (by omega)).mono ?_
  rintro e w15 ⟨rfl, b15⟩
  have T15 := Hid.mk7 (T14.out.later b15)
  have S15 := Hid.mk7 (S14.out.later b15)
  have g15 := g14.trans (b15.mono g14.size)
  clear A14 B14 T14 S14 g14 b15
  go_wp2
  go_ret
  exact ⟨rfl, g15⟩
end Go.Proofs.Ytbkjcibfcpejfaa
