/- AlgebraLaws walked. -/
import Derived.Test.YtkiiknaoljppdaaAlgLawN
namespace Go.Proofs.Ytkiiknaoljppdaa
open Go.RowKit Go.Sort
set_option linter.unusedSimpArgs false
set_option linter.unusedVariables false

set_option maxHeartbeats 8000000 in
set_option maxRecDepth 100000 in
theorem laws8_any (xs bs cs : List Bool) (va vb vc : Value) (w : World) (ha : BoolAt w va xs) (hb : BoolAt w vb bs) (hc : BoolAt w vc cs) (hl : xs.length ≤ 140737488355328) (hl2 : bs.length ≤ 140737488355328) (hl3 : cs.length ≤ 140737488355328) :
    Calls Try.prog 7 #[va, vb, vc] w fun e w' => e = .returned (.bool true) ∧ Below w.heap.size w w' := by
  have A0 := Hid.mk7 ha
  have B0 := Hid.mk7 hb
  have C0 := Hid.mk7 hc
  obtain ⟨aa, capa, rfl, hcapa, _⟩ := ha
  obtain ⟨ab, capb, rfl, hcapb, _⟩ := hb
  obtain ⟨ac, capc, rfl, hcapc, _⟩ := hc
  by_cases h1 : 80 < xs.length
  · go_enter Try.func7, Try.ntmps7
    go_wp2_with fail
    refine (known8_any w).mono ?_
    rintro e w1 ⟨rfl, b1⟩
    go_wp2
    go_ret
    exact ⟨rfl, b1⟩
  by_cases h2 : bs.length < xs.length
  · go_enter Try.func7, Try.ntmps7
    go_wp2_with fail
    refine (known8_any w).mono ?_
    rintro e w1 ⟨rfl, b1⟩
    go_wp2
    go_ret
    exact ⟨rfl, b1⟩
  by_cases h3 : cs.length < xs.length
  · go_enter Try.func7, Try.ntmps7
    go_wp2_with fail
    refine (known8_any w).mono ?_
    rintro e w1 ⟨rfl, b1⟩
    go_wp2
    go_ret
    exact ⟨rfl, b1⟩
  obtain ⟨n, hn⟩ : ∃ n, xs.length = n := ⟨_, rfl⟩
  have hbn : (bs.take n).length = n := by simp; omega
  have hcn : (cs.take n).length = n := by simp; omega
  have A1 : Hid (BoolAt w (.slice aa n capa) xs) := by rw [← hn]; exact A0.out
  have B1 := Hid.mk7 (B0.out.take n (by omega))
  have C1 := Hid.mk7 (C0.out.take n (by omega))
  have HOFB : Hid (∀ (W : World) (v : Value) (ys : List Bool), BoolAt W v ys → ys.length = n → Calls Try.prog 30 #[v] W fun e w' => ∃ p, e = .returned p ∧ Sub w' p (ys.map b2i) ∧ Below W.heap.size W w') := fun W v ys h hx => of_bools h (by omega)
  have HN := Hid.mk7 hn
  have HBN := Hid.mk7 hbn
  have HCN := Hid.mk7 hcn
  have HSZ : Hid ((szc (notL (xs.map b2i)) : Int) = (n : Int) - (szc (xs.map b2i) : Int)) := by
    show _ = _
    have := bools_sz xs
    omega
  have hS : szc (xs.map b2i) ≤ n := by have := bools_sz xs; omega
  have H3 : Hid (tog uF (tog uF (xs.map b2i) ((bs.take n).map b2i)) ((cs.take n).map b2i) = tog uF (xs.map b2i) (tog uF ((bs.take n).map b2i) ((cs.take n).map b2i))) := bools_u3 xs (bs.take n) (cs.take n) (by omega) (by omega)
  have HX : Hid (tog xF (tog xF (xs.map b2i) ((bs.take n).map b2i)) ((bs.take n).map b2i) = xs.map b2i) := bools_x2 xs (bs.take n) (by omega)
  have HM : Hid (tog mF (tog uF (xs.map b2i) ((bs.take n).map b2i)) ((bs.take n).map b2i) = xs.map b2i) := bools_um xs (bs.take n) (by omega)
  have HNN : Hid (notL (notL (xs.map b2i)) = xs.map b2i) := bools_nn xs
  have OA : Hid (Ok8 (xs.map b2i) ∧ (xs.map b2i).length = n) := ⟨ok8_bools xs (by omega), by simp [hn]⟩
  have OB : Hid (Ok8 ((bs.take n).map b2i) ∧ ((bs.take n).map b2i).length = n) := ⟨ok8_bools _ (by omega), by rw [len_b2i]; exact hbn⟩
  have OC : Hid (Ok8 ((cs.take n).map b2i) ∧ ((cs.take n).map b2i).length = n) := ⟨ok8_bools _ (by omega), by rw [len_b2i]; exact hcn⟩
  have UT : ∀ {L M : List Int}, Ok8 L ∧ L.length = n → Ok8 M ∧ M.length = n → Ok8 (tog uF L M) ∧ (tog uF L M).length = n := fun hL hM => ⟨ok8_tog hL.1 hM.1 uF_in, by rw [tog_len_eq hL.1.2 hM.1.2 (by omega) uF_ne]; exact hL.2⟩
  have OP : Hid (Ok8 (tog uF (xs.map b2i) ((bs.take n).map b2i)) ∧ (tog uF (xs.map b2i) ((bs.take n).map b2i)).length = n) := UT OA.out OB.out
  have OR : Hid (Ok8 (tog uF ((bs.take n).map b2i) ((cs.take n).map b2i)) ∧ (tog uF ((bs.take n).map b2i) ((cs.take n).map b2i)).length = n) := UT OB.out OC.out
  have OS : Hid (Ok8 (tog uF (xs.map b2i) (tog uF ((bs.take n).map b2i) ((cs.take n).map b2i))) ∧ (tog uF (xs.map b2i) (tog uF ((bs.take n).map b2i) ((cs.take n).map b2i))).length = n) := UT OA.out OR.out
  have OU : Hid (Ok8 (tog xF (xs.map b2i) ((bs.take n).map b2i)) ∧ (tog xF (xs.map b2i) ((bs.take n).map b2i)).length = n) := ⟨ok8_tog OA.out.1 OB.out.1 xF_in, by rw [tog_len_eq OA.out.1.2 OB.out.1.2 (by rw [OA.out.2, OB.out.2]) xF_ne]; exact OA.out.2⟩
  have ON : Hid (Ok8 (notL (xs.map b2i)) ∧ (notL (xs.map b2i)).length = n) := ⟨ok8_not OA.out.1, by simp [notL, hn]⟩
  clear A0 B0 C0 UT hbn hcn
  rw [hn] at h1 h2 h3 hl ⊢
  obtain ⟨X, hXX⟩ : ∃ X, xs.map b2i = X := ⟨_, rfl⟩
  rw [hXX] at HSZ hS H3 HX HM HNN OA OP OS OU ON
  have HXX := Hid.mk7 hXX
  clear hXX
  obtain ⟨bt, hbt⟩ : ∃ l, bs.take n = l := ⟨_, rfl⟩
  obtain ⟨ct, hct⟩ : ∃ l, cs.take n = l := ⟨_, rfl⟩
  rw [hbt] at B1 HBN H3 HX HM OB OP OR OS OU
  rw [hct] at C1 HCN H3 OC OR OS
  have HA : Hid (∀ W, BoolAt W (.slice aa n capa) xs → Calls Try.prog 30 #[.slice aa n capa] W fun e w' => ∃ p, e = .returned p ∧ Sub w' p X ∧ Below W.heap.size W w') := fun W h => by have := HOFB.out W _ xs h HN.out; rw [HXX.out] at this; exact this
  have HB : Hid (∀ W, BoolAt W (.slice ab n capb) bt → Calls Try.prog 30 #[.slice ab n capb] W fun e w' => ∃ p, e = .returned p ∧ Sub w' p (bt.map b2i) ∧ Below W.heap.size W w') := fun W h => HOFB.out W _ bt h HBN.out
  have HC : Hid (∀ W, BoolAt W (.slice ac n capc) ct → Calls Try.prog 30 #[.slice ac n capc] W fun e w' => ∃ p, e = .returned p ∧ Sub w' p (ct.map b2i) ∧ Below W.heap.size W w') := fun W h => HOFB.out W _ ct h HCN.out
  clear hbt hct hn HOFB HXX HN HBN HCN
  generalize bt.map b2i = Y at *
  generalize ct.map b2i = Z at *
  have hcb : n ≤ capb := by omega
  have hcc : n ≤ capc := by omega
  have d80 : decide ((80 : Int) < (n : Int)) = false := decide_eq_false (by omega)
  go_enter Try.func7, Try.ntmps7
  go_wp2_with fail
  refine (known8_any w).mono ?_
  rintro e w2 ⟨rfl, b2⟩
  have A2 := Hid.mk7 (A1.out.later b2)
  have B2 := Hid.mk7 (B1.out.later b2)
  have C2 := Hid.mk7 (C1.out.later b2)
  have g2 := b2
  clear A1 B1 C1 b2
  go_wp2
  go_region_with (first | (refine (HA.out _ (A2.out.later (Below.refl _ _).drew)).mono ?_; rintro e w3 ⟨x, rfl, hx, b3⟩; have X3 := Hid.mk7 hx; have B3 := Hid.mk7 ((B2.out.later (Below.refl _ _).drew).later b3); have C3 := Hid.mk7 ((C2.out.later (Below.refl _ _).drew).later b3); have g3 := g2.drew.trans (b3.mono g2.size); obtain ⟨xb, xv, rfl, _⟩ := id hx; clear hx b3 A2 B2 C2 g2) | (refine (HB.out _ B3.out).mono ?_; rintro e w4 ⟨y, rfl, hy, b4⟩; have X4 := Hid.mk7 (X3.out.later b4); have Y4 := Hid.mk7 hy; have C4 := Hid.mk7 (C3.out.later b4); have g4 := g3.trans (b4.mono g3.size); obtain ⟨yb, yv, rfl, _⟩ := id hy; clear hy b4 X3 B3 C3 g3) | (refine (HC.out _ C4.out).mono ?_; rintro e w5 ⟨z, rfl, hz, b5⟩; have X5 := Hid.mk7 (X4.out.later b5); have Y5 := Hid.mk7 (Y4.out.later b5); have Z5 := Hid.mk7 hz; have g5 := g4.trans (b5.mono g4.size); obtain ⟨zb, zv, rfl, _⟩ := id hz; clear hz b5 X4 Y4 C4 g4))
  go_wp2_with fail
  refine (union_ok X5.out Y5.out OA.out.1 OB.out.1 (by rw [OA.out.2, OB.out.2]) rfl (by rw [OP.out.2]; omega)).mono ?_
  rintro e w6 ⟨rP, rfl, hP, b6⟩
  have X6 := Hid.mk7 (X5.out.later b6)
  have Y6 := Hid.mk7 (Y5.out.later b6)
  have Z6 := Hid.mk7 (Z5.out.later b6)
  have P6 := Hid.mk7 hP
  have g6 := g5.trans (b6.mono g5.size)
  clear X5 Y5 Z5 g5 b6 hP
  go_wp2_with fail
  refine (union_ok P6.out Z6.out OP.out.1 OC.out.1 (by rw [OP.out.2, OC.out.2]) H3.out (by rw [OS.out.2]; omega)).mono ?_
  rintro e w7 ⟨rQ, rfl, hQ, b7⟩
  have X7 := Hid.mk7 (X6.out.later b7)
  have Y7 := Hid.mk7 (Y6.out.later b7)
  have Z7 := Hid.mk7 (Z6.out.later b7)
  have P7 := Hid.mk7 (P6.out.later b7)
  have Q7 := Hid.mk7 hQ
  have g7 := g6.trans (b7.mono g6.size)
  clear X6 Y6 Z6 P6 g6 b7 hQ
  go_wp2_with fail
  refine (union_ok Y7.out Z7.out OB.out.1 OC.out.1 (by rw [OB.out.2, OC.out.2]) rfl (by rw [OR.out.2]; omega)).mono ?_
  rintro e w8 ⟨rR, rfl, hR, b8⟩
  have X8 := Hid.mk7 (X7.out.later b8)
  have Y8 := Hid.mk7 (Y7.out.later b8)
  have Z8 := Hid.mk7 (Z7.out.later b8)
  have P8 := Hid.mk7 (P7.out.later b8)
  have Q8 := Hid.mk7 (Q7.out.later b8)
  have R8 := Hid.mk7 hR
  have g8 := g7.trans (b8.mono g7.size)
  clear X7 Y7 Z7 P7 Q7 g7 b8 hR
  go_wp2_with fail
  refine (union_ok X8.out R8.out OA.out.1 OR.out.1 (by rw [OA.out.2, OR.out.2]) rfl (by rw [OS.out.2]; omega)).mono ?_
  rintro e w9 ⟨rS, rfl, hS, b9⟩
  have X9 := Hid.mk7 (X8.out.later b9)
  have Y9 := Hid.mk7 (Y8.out.later b9)
  have Z9 := Hid.mk7 (Z8.out.later b9)
  have P9 := Hid.mk7 (P8.out.later b9)
  have Q9 := Hid.mk7 (Q8.out.later b9)
  have R9 := Hid.mk7 (R8.out.later b9)
  have S9 := Hid.mk7 hS
  have g9 := g8.trans (b9.mono g8.size)
  clear X8 Y8 Z8 P8 Q8 R8 g8 b9 hS
  go_wp2_with fail
  refine (not_ok X9.out OA.out.1 (by rw [OA.out.2]; omega) rfl).mono ?_
  rintro e w10 ⟨n1, rfl, hn1, b10⟩
  have X10 := Hid.mk7 (X9.out.later b10)
  have Y10 := Hid.mk7 (Y9.out.later b10)
  have P10 := Hid.mk7 (P9.out.later b10)
  have Q10 := Hid.mk7 (Q9.out.later b10)
  have S10 := Hid.mk7 (S9.out.later b10)
  have M10 := Hid.mk7 hn1
  have g10 := g9.trans (b10.mono g9.size)
  clear X9 Y9 P9 Q9 S9 g9 b10 hn1
  go_wp2_with fail
  refine (not_ok M10.out ON.out.1 (by rw [ON.out.2]; omega) HNN.out).mono ?_
  rintro e w11 ⟨n2, rfl, hn2, b11⟩
  have X11 := Hid.mk7 (X10.out.later b11)
  have Y11 := Hid.mk7 (Y10.out.later b11)
  have P11 := Hid.mk7 (P10.out.later b11)
  have Q11 := Hid.mk7 (Q10.out.later b11)
  have S11 := Hid.mk7 (S10.out.later b11)
  have N11 := Hid.mk7 hn2
  have g11 := g10.trans (b11.mono g10.size)
  clear M10 X10 Y10 P10 Q10 S10 g10 b11 hn2
  go_wp2_with fail
  refine (xor_ok X11.out Y11.out OA.out.1 OB.out.1 (by rw [OA.out.2, OB.out.2]) rfl (by rw [OU.out.2]; omega)).mono ?_
  rintro e w12 ⟨rU, rfl, hU, b12⟩
  have X12 := Hid.mk7 (X11.out.later b12)
  have Y12 := Hid.mk7 (Y11.out.later b12)
  have P12 := Hid.mk7 (P11.out.later b12)
  have Q12 := Hid.mk7 (Q11.out.later b12)
  have S12 := Hid.mk7 (S11.out.later b12)
  have N12 := Hid.mk7 (N11.out.later b12)
  have U12 := Hid.mk7 hU
  have g12 := g11.trans (b12.mono g11.size)
  clear X11 Y11 P11 Q11 S11 N11 g11 b12 hU
  go_wp2_with fail
  refine (xor_ok U12.out Y12.out OU.out.1 OB.out.1 (by rw [OU.out.2, OB.out.2]) HX.out (by rw [OA.out.2]; omega)).mono ?_
  rintro e w13 ⟨rV, rfl, hV, b13⟩
  have X13 := Hid.mk7 (X12.out.later b13)
  have Y13 := Hid.mk7 (Y12.out.later b13)
  have P13 := Hid.mk7 (P12.out.later b13)
  have Q13 := Hid.mk7 (Q12.out.later b13)
  have S13 := Hid.mk7 (S12.out.later b13)
  have N13 := Hid.mk7 (N12.out.later b13)
  have U13 := Hid.mk7 (U12.out.later b13)
  have V13 := Hid.mk7 hV
  have g13 := g12.trans (b13.mono g12.size)
  clear X12 Y12 P12 Q12 S12 N12 U12 g12 b13 hV
  go_wp2_with fail
  refine (minus_ok P13.out Y13.out OP.out.1 OB.out.1 (by rw [OP.out.2, OB.out.2]) HM.out (by rw [OA.out.2]; omega)).mono ?_
  rintro e w14 ⟨rT, rfl, hT, b14⟩
  have X14 := Hid.mk7 (X13.out.later b14)
  have Y14 := Hid.mk7 (Y13.out.later b14)
  have P14 := Hid.mk7 (P13.out.later b14)
  have Q14 := Hid.mk7 (Q13.out.later b14)
  have S14 := Hid.mk7 (S13.out.later b14)
  have N14 := Hid.mk7 (N13.out.later b14)
  have U14 := Hid.mk7 (U13.out.later b14)
  have V14 := Hid.mk7 (V13.out.later b14)
  have T14 := Hid.mk7 hT
  have g14 := g13.trans (b14.mono g13.size)
  clear X13 Y13 P13 Q13 S13 N13 U13 V13 g13 b14 hT
  go_wp2_with fail
  refine (same_yes Q14.out S14.out (by rw [OS.out.2]; omega)).mono ?_
  rintro e w15 ⟨rfl, b15⟩
  have X15 := Hid.mk7 (X14.out.later b15)
  have N15 := Hid.mk7 (N14.out.later b15)
  have V15 := Hid.mk7 (V14.out.later b15)
  have T15 := Hid.mk7 (T14.out.later b15)
  have g15 := g14.trans (b15.mono g14.size)
  clear Q14 S14 X14 N14 V14 T14 g14 b15
  go_wp2_with fail
  refine (same_yes N15.out X15.out (by rw [OA.out.2]; omega)).mono ?_
  rintro e w16 ⟨rfl, b16⟩
  have X16 := Hid.mk7 (X15.out.later b16)
  have V16 := Hid.mk7 (V15.out.later b16)
  have T16 := Hid.mk7 (T15.out.later b16)
  have g16 := g15.trans (b16.mono g15.size)
  clear N15 X15 V15 T15 g15 b16
  go_wp2_with fail
  refine (same_yes V16.out X16.out (by rw [OA.out.2]; omega)).mono ?_
  rintro e w17 ⟨rfl, b17⟩
  have X17 := Hid.mk7 (X16.out.later b17)
  have T17 := Hid.mk7 (T16.out.later b17)
  have g17 := g16.trans (b17.mono g16.size)
  clear V16 X16 T16 g16 b17
  go_wp2_with fail
  refine (same_yes T17.out X17.out (by rw [OA.out.2]; omega)).mono ?_
  rintro e w18 ⟨rfl, b18⟩
  have X18 := Hid.mk7 (X17.out.later b18)
  have g18 := g17.trans (b18.mono g17.size)
  clear T17 X17 g17 b18
  go_wp2_with fail
  refine (size_is X18.out (by rw [OA.out.2]; omega) rfl).mono ?_
  rintro e w19 ⟨rfl, b19⟩
  have X19 := Hid.mk7 (X18.out.later b19)
  have g19 := g18.trans (b19.mono g18.size)
  clear X18 g18 b19
  go_wp2_with fail
  refine (not_ok X19.out OA.out.1 (by rw [OA.out.2]; omega) rfl).mono ?_
  rintro e w20 ⟨n3, rfl, hn3, b20⟩
  have M20 := Hid.mk7 hn3
  have g20 := g19.trans (b20.mono g19.size)
  clear X19 g19 b20 hn3
  go_wp2_with fail
  refine (size_is M20.out (by rw [ON.out.2]; omega) HSZ.out).mono ?_
  rintro e w21 ⟨rfl, b21⟩
  have g21 := g20.trans (b21.mono g20.size)
  clear M20 g20 b21
  go_wp2
  go_ret
  exact ⟨ret_bool7 (by rw [beq_iff_eq]; omega), g21⟩
end Go.Proofs.Ytkiiknaoljppdaa
