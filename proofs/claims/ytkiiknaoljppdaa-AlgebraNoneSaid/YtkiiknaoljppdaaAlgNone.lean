/- AlgebraNone walked. -/
import Derived.Test.YtkiiknaoljppdaaAlgLawM
namespace Go.Proofs.Ytkiiknaoljppdaa
open Go.RowKit Go.Sort
set_option linter.unusedSimpArgs false
set_option linter.unusedVariables false

set_option maxHeartbeats 4000000 in
set_option maxRecDepth 100000 in
theorem none8_any (bs : List Bool) (s : ByteArray) (v : Value) (w : World) (hv : BoolAt w v bs) (hl : bs.length ≤ 140737488355328) (hs0 : s.size ≤ maxLen) :
    Calls Try.prog 8 #[v, .string s] w fun e w' => e = .returned (.bool true) ∧ Below w.heap.size w w' := by
  have V0 := Hid.mk7 hv
  have hs : s.size ≤ 9223372036854775807 := hs0
  clear hs0
  obtain ⟨a, cap, rfl, hcap, _⟩ := hv
  by_cases h1 : 80 < bs.length
  · go_enter Try.func8, Try.ntmps8
    go_wp2_with fail
    refine (known8_any w).mono ?_
    rintro e w1 ⟨rfl, b1⟩
    go_wp2
    go_ret
    exact ⟨rfl, b1⟩
  by_cases h2 : s.size < bs.length
  · go_enter Try.func8, Try.ntmps8
    go_wp2_with fail
    refine (known8_any w).mono ?_
    rintro e w1 ⟨rfl, b1⟩
    go_wp2
    go_ret
    exact ⟨rfl, b1⟩
  obtain ⟨n, hn⟩ : ∃ n, bs.length = n := ⟨_, rfl⟩
  obtain ⟨X, hX⟩ : ∃ X, bs.map b2i = X := ⟨_, rfl⟩
  have HXO : Hid (Ok8 X) := by show Ok8 X; rw [← hX]; exact ok8_bools bs (by omega)
  have hXl : X.length = n := by rw [← hX, len_b2i]; exact hn
  have HXL := Hid.mk7 hXl
  have HOFB : Hid (∀ W, BoolAt W (.slice a bs.length cap) bs → Calls Try.prog 30 #[.slice a bs.length cap] W fun e w' => ∃ p, e = .returned p ∧ Sub w' p X ∧ Below W.heap.size W w') := fun W h => by have := of_bools h (by omega); rw [hX] at this; exact this
  rw [hn] at HOFB V0 h1 h2 hl hcap ⊢
  have hZ0 : Ok8 (List.replicate n 0) := ok8_zeros n (by omega)
  have hZ1 : Ok8 (List.replicate n 1) := ok8_ones n (by omega)
  obtain ⟨Z, hZ⟩ : ∃ Z, List.replicate n (0 : Int) = Z := ⟨_, rfl⟩
  obtain ⟨N, hN⟩ : ∃ N, List.replicate n (1 : Int) = N := ⟨_, rfl⟩
  have HZO : Hid (Ok8 Z) := by rw [← hZ]; exact hZ0
  have HNO : Hid (Ok8 N) := by rw [← hN]; exact hZ1
  have HZL : Hid (Z.length = n) := by show _ = _; rw [← hZ]; simp
  have HNL : Hid (N.length = n) := by show _ = _; rw [← hN]; simp
  have HZZ : Hid (zrc Z = n) := by show _ = _; rw [← hZ, zrc_rep0]
  have HNZ : Hid (notL Z = N) := by show _ = _; rw [← hZ, not_zeros, hN]
  have HE : Hid (expd X Z = X) := by show _ = _; rw [← hZ, ← hXl]; exact expd_all X
  have HS1 : Hid (tog sF X Z = X) := by show _ = _; rw [← hZ, ← hXl]; exact shrink_none X HXO.out.2
  have HS2 : Hid (tog sF X N = []) := by show _ = _; rw [← hN, ← hXl]; exact shrink_every X
  have HU : Hid (tog uF X Z = X) := by show _ = _; rw [← hZ, ← hXl]; exact union_none X HXO.out.2
  have hsz : (s.extract 0 n).size = n := by rw [ByteArray.size_extract]; omega
  have HSZ := Hid.mk7 hsz
  have HDEL : Hid (del Z (s.extract 0 n).data.toList = (s.extract 0 n).data.toList) := by
    show _ = _
    have := del_all (s.extract 0 n).data.toList
    rw [show (s.extract 0 n).data.toList.length = n from hsz, hZ] at this
    exact this
  have HNEW : Hid (∀ W, Calls Try.prog 31 #[.int .i64 (n : Nat)] W fun e w' => ∃ p, e = .returned p ∧ Sub w' p Z ∧ Below W.heap.size W w') := fun W => by have := new_any (n : Int) W n rfl (by omega); rw [hZ] at this; exact this
  clear hsz hZ hN hZ0 hZ1 hX hXl hn
  go_enter Try.func8, Try.ntmps8
  go_wp2_with fail
  refine (known8_any w).mono ?_
  rintro e w1 ⟨rfl, b1⟩
  have V1 := Hid.mk7 (V0.out.later b1)
  have g1 := b1
  clear V0 b1
  go_wp2_with fail
  refine (HOFB.out _ V1.out).mono ?_
  rintro e w2 ⟨x, rfl, hx, b2⟩
  have X2 := Hid.mk7 hx
  have g2 := g1.trans (b2.mono g1.size)
  obtain ⟨xb, xv, rfl, _⟩ := id X2.out
  clear V1 g1 b2 hx
  go_wp2_with fail
  refine (HNEW.out _).mono ?_
  rintro e w3 ⟨z, rfl, hz, b3⟩
  have X3 := Hid.mk7 (X2.out.later b3)
  have Z3 := Hid.mk7 hz
  have g3 := g2.trans (b3.mono g2.size)
  clear X2 g2 b3 hz
  go_wp2_with fail
  refine (expand_ok X3.out Z3.out HXO.out HZO.out (by rw [HXL.out, HZZ.out]) HE.out (by rw [HXL.out]; omega)).mono ?_
  rintro e w4 ⟨p, rfl, hp, b4⟩
  have X4 := Hid.mk7 (X3.out.later b4)
  have Z4 := Hid.mk7 (Z3.out.later b4)
  have P4 := Hid.mk7 hp
  have g4 := g3.trans (b4.mono g3.size)
  clear X3 Z3 g3 b4 hp
  go_wp2_with fail
  refine (shrink_ok X4.out Z4.out HXO.out HZO.out (by rw [HXL.out, HZL.out]) HS1.out (by rw [HXL.out]; omega)).mono ?_
  rintro e w5 ⟨q, rfl, hq, b5⟩
  have X5 := Hid.mk7 (X4.out.later b5)
  have Z5 := Hid.mk7 (Z4.out.later b5)
  have P5 := Hid.mk7 (P4.out.later b5)
  have Q5 := Hid.mk7 hq
  have g5 := g4.trans (b5.mono g4.size)
  clear X4 Z4 P4 g4 b5 hq
  go_wp2_with fail
  refine (union_ok X5.out Z5.out HXO.out HZO.out (by rw [HXL.out, HZL.out]) HU.out (by rw [HXL.out]; omega)).mono ?_
  rintro e w6 ⟨r, rfl, hr, b6⟩
  have X6 := Hid.mk7 (X5.out.later b6)
  have Z6 := Hid.mk7 (Z5.out.later b6)
  have P6 := Hid.mk7 (P5.out.later b6)
  have Q6 := Hid.mk7 (Q5.out.later b6)
  have R6 := Hid.mk7 hr
  have g6 := g5.trans (b6.mono g5.size)
  clear X5 Z5 P5 Q5 g5 b6 hr
  go_wp2_with fail
  refine (delete_ok (s.extract 0 n) (s.extract 0 n) Z6.out HZO.out (by rw [HZL.out, HSZ.out]) HDEL.out).mono ?_
  rintro e w7 ⟨rfl, b7⟩
  have X7 := Hid.mk7 (X6.out.later b7)
  have Z7 := Hid.mk7 (Z6.out.later b7)
  have P7 := Hid.mk7 (P6.out.later b7)
  have Q7 := Hid.mk7 (Q6.out.later b7)
  have R7 := Hid.mk7 (R6.out.later b7)
  have g7 := g6.trans (b7.mono g6.size)
  clear X6 Z6 P6 Q6 R6 g6 b7
  go_wp2_with fail
  refine (not_ok Z7.out HZO.out (by rw [HZL.out]; omega) HNZ.out).mono ?_
  rintro e w8 ⟨m, rfl, hm, b8⟩
  have X8 := Hid.mk7 (X7.out.later b8)
  have P8 := Hid.mk7 (P7.out.later b8)
  have Q8 := Hid.mk7 (Q7.out.later b8)
  have R8 := Hid.mk7 (R7.out.later b8)
  have M8 := Hid.mk7 hm
  have g8 := g7.trans (b8.mono g7.size)
  clear Z7 X7 P7 Q7 R7 g7 b8 hm
  go_wp2_with fail
  refine (shrink_ok X8.out M8.out HXO.out HNO.out (by rw [HXL.out, HNL.out]) HS2.out (by simp)).mono ?_
  rintro e w9 ⟨u, rfl, hu, b9⟩
  have X9 := Hid.mk7 (X8.out.later b9)
  have P9 := Hid.mk7 (P8.out.later b9)
  have Q9 := Hid.mk7 (Q8.out.later b9)
  have R9 := Hid.mk7 (R8.out.later b9)
  have U9 := Hid.mk7 hu
  have g9 := g8.trans (b9.mono g8.size)
  clear M8 X8 P8 Q8 R8 g8 b9 hu
  go_wp2_with fail
  refine (same_yes P9.out X9.out (by rw [HXL.out]; omega)).mono ?_
  rintro e w10 ⟨rfl, b10⟩
  have X10 := Hid.mk7 (X9.out.later b10)
  have Q10 := Hid.mk7 (Q9.out.later b10)
  have R10 := Hid.mk7 (R9.out.later b10)
  have U10 := Hid.mk7 (U9.out.later b10)
  have g10 := g9.trans (b10.mono g9.size)
  clear P9 X9 Q9 R9 U9 g9 b10
  go_wp2_with fail
  refine (same_yes Q10.out X10.out (by rw [HXL.out]; omega)).mono ?_
  rintro e w11 ⟨rfl, b11⟩
  have X11 := Hid.mk7 (X10.out.later b11)
  have R11 := Hid.mk7 (R10.out.later b11)
  have U11 := Hid.mk7 (U10.out.later b11)
  have g11 := g10.trans (b11.mono g10.size)
  clear Q10 X10 R10 U10 g10 b11
  go_wp2_with fail
  refine (same_yes R11.out X11.out (by rw [HXL.out]; omega)).mono ?_
  rintro e w12 ⟨rfl, b12⟩
  have X12 := Hid.mk7 (X11.out.later b12)
  have U12 := Hid.mk7 (U11.out.later b12)
  have g12 := g11.trans (b12.mono g11.size)
  clear R11 X11 U11 g11 b12
  go_wp2_with fail
  refine (len_any7 U12.out (by simp)).mono ?_
  rintro e w13 ⟨rfl, b13⟩
  have g13 := g12.trans (b13.mono g12.size)
  clear U12 X12 g12 b13
  go_wp2
  go_ret
  exact ⟨rfl, g13⟩
end Go.Proofs.Ytkiiknaoljppdaa
