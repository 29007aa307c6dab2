/- palinodelaw14's OffsetPlain walked. -/
import Derived.Test.YtelpinngimohoaaDoorOffKnown
import Derived.Test.YtelpinngimohoaaDoorOffPlainM
import Derived.Test.YtelpinngimohoaaDoorTurnsP
namespace Go.Proofs.YtelpinngimohoaaDoor
open Go.RowKit Go.Sort Go.Lib
set_option linter.unusedSimpArgs false
set_option linter.unusedVariables false

theorem move_w {w : World} {v : Value} {es : List El} {base at' : Int} {tb : Nat × Nat} {z : Int} {after : Bool} (hz : mvV base es at' after = z) (hi : isB base es = true) (h : ElAt w v es) (hT : Tab w tb) :
    Calls Tryd.prog 12 #[.agg #[.int .i64 base, v], .int .i64 at', .bool after] w fun e w' => e = .returned (.int .i64 z) ∧ RowKit.Below w.heap.size w w' := by
  subst hz; exact move_any base at' after h ((dl_of hi).sm.mono (by omega)) tb hT
set_option maxHeartbeats 4000000 in
set_option maxRecDepth 100000 in
theorem plain14_any (n at' p q : Int) (s : ByteArray) (hn : 0 ≤ n ∧ n ≤ 255) (hx : 0 ≤ at' ∧ at' ≤ 255) (hp : 0 ≤ p ∧ p ≤ 255) (hq : 0 ≤ q ∧ q ≤ 255) (hs : s.size ≤ maxLen) (w : World) (tb : Nat × Nat) (hT : Tab w tb) :
    Calls Tryd.prog 7 #[.int .u8 n, .int .u8 at', .int .u8 p, .int .u8 q, .string s] w fun e w' => e = .returned (.bool true) ∧ RowKit.Below w.heap.size w w' := by
  have HK := Hid.mk7 (known14_any w tb hT)
  have HT := Hid.mk7 hT
  clear hT
  by_cases hlong : 20 < s.size
  · have t1 : decide ((20 : Int) < (s.size : Int)) = true := decide_eq_true (by omega)
    go_enter Tryd.func7, Tryd.ntmps7
    go_wp2_with fail
    refine HK.out.mono ?_
    rintro e w1 ⟨rfl, b1⟩
    go_wp2
    go_ret
    exact ⟨rfl, b1⟩
  have hsn : s.size ≤ 20 := by omega
  have t1 : decide ((20 : Int) < (s.size : Int)) = false := decide_eq_false (by omega)
  obtain ⟨m, hm⟩ : ∃ m : Nat, n % 100 = (m : Int) := ⟨(n % 100).toNat, by omega⟩
  have hm1 : m < 100 := by omega
  have hTl : s.data.toList.length ≤ 1000 := by rw [bytes_length]; omega
  go_enter Tryd.func7, Tryd.ntmps7
  go_wp2_with fail
  refine HK.out.mono ?_
  rintro e w1 ⟨rfl, b1⟩
  have TT1 := Hid.mk7 (HT.out.later b1)
  have G1 := Hid.mk7 b1
  clear HK b1 hlong HT
  go_upto_region 5 with fail
  go_cut [11] from 27 to 31 (fun s9 wx => ∃ N : Nat, s9 = .int .i64 (N : Nat) ∧ 2 ≤ N ∧ N ≤ 101 ∧ wx = w1)
  case first =>
    go_wp2
    go_meet
    exact ⟨m + 2, by simp, by omega, by omega, rfl⟩
  case rest =>
    obtain ⟨N, rfl, hN1, hN, rfl⟩ := hcut
    clear hm
    obtain ⟨x0, hx0⟩ : ∃ a : Nat, at' % ((N : Int) + 1) = (a : Int) := ⟨(at' % ((N : Int) + 1)).toNat, by have := Int.emod_nonneg at' (show (N : Int) + 1 ≠ 0 by omega); omega⟩
    obtain ⟨a0, ha0⟩ : ∃ a : Nat, p % ((N : Int) + 1) = (a : Int) := ⟨(p % ((N : Int) + 1)).toNat, by have := Int.emod_nonneg p (show (N : Int) + 1 ≠ 0 by omega); omega⟩
    obtain ⟨b0, hb0⟩ : ∃ b : Nat, q % ((N : Int) + 1) = (b : Int) := ⟨(q % ((N : Int) + 1)).toNat, by have := Int.emod_nonneg q (show (N : Int) + 1 ≠ 0 by omega); omega⟩
    have hx1 : x0 ≤ N := by have := Int.emod_lt_of_pos at' (show (0 : Int) < (N : Int) + 1 by omega); omega
    have ha1 : a0 ≤ N := by have := Int.emod_lt_of_pos p (show (0 : Int) < (N : Int) + 1 by omega); omega
    have hb1 : b0 ≤ N := by have := Int.emod_lt_of_pos q (show (0 : Int) < (N : Int) + 1 by omega); omega
    have hz : ¬ (N : Int) + 1 = 0 := by omega
    go_upto_region 6 with fail
    go_cut [12] from 31 to 36 (fun s9 wx => ∃ x : Nat, s9 = .int .i64 (x : Nat) ∧ x ≤ N ∧ wx = wc)
    case first =>
      go_wp2
      go_meet
      exact ⟨x0, by simp [hx0], by omega, rfl⟩
    case rest =>
      obtain ⟨x, rfl, hxN, rfl⟩ := hcut
      clear hx0 hx1
      go_upto_region 7 with fail
      go_cut [13, 14] from 36 to 58 (fun s10 s11 wx => ∃ a b : Nat, s10 = .int .i64 (a : Nat) ∧ s11 = .int .i64 (b : Nat) ∧ a ≤ b ∧ b ≤ N ∧ Hid (Tab wx tb) ∧ Hid (RowKit.Below w.heap.size w wx))
      case first =>
        rcases (show a0 < b0 ∨ a0 = b0 ∨ b0 < a0 by omega) with hab | hab | hab
        · have h2 : (a0 : Int) < (b0 : Int) := by omega
          have h3 : ¬ b0 < a0 := by omega
          have h4 : a0 ≤ b0 := by omega
          have h5 : ¬ b0 ≤ a0 := by omega
          have e1 : min (a0 : Int) (b0 : Int) = (a0 : Int) := by omega
          have e2 : max (a0 : Int) (b0 : Int) = (b0 : Int) := by omega
          go_quiet (fail)
          have TT2 : Hid (Tab (wc.drewN nq) tb) := TT1.out.later (below_drewN (RowKit.Below.refl _ _) nq)
          have G2 : Hid (RowKit.Below w.heap.size w (wc.drewN nq)) := below_drewN G1.out nq
          go_wp2
          go_meet
          exact ⟨a0, b0, rfl, rfl, by omega, by omega, TT2, G2⟩
        · subst hab
          go_quiet (fail)
          have TT2 : Hid (Tab (wc.drewN nq) tb) := TT1.out.later (below_drewN (RowKit.Below.refl _ _) nq)
          have G2 : Hid (RowKit.Below w.heap.size w (wc.drewN nq)) := below_drewN G1.out nq
          go_wp2
          go_meet
          exact ⟨a0, a0, rfl, rfl, by omega, by omega, TT2, G2⟩
        · have h2 : (b0 : Int) < (a0 : Int) := by omega
          have h3 : ¬ a0 < b0 := by omega
          have h4 : b0 ≤ a0 := by omega
          have h5 : ¬ a0 ≤ b0 := by omega
          have e1 : min (a0 : Int) (b0 : Int) = (b0 : Int) := by omega
          have e2 : max (a0 : Int) (b0 : Int) = (a0 : Int) := by omega
          go_quiet (fail)
          have TT2 : Hid (Tab (wc.drewN nq) tb) := TT1.out.later (below_drewN (RowKit.Below.refl _ _) nq)
          have G2 : Hid (RowKit.Below w.heap.size w (wc.drewN nq)) := below_drewN G1.out nq
          go_wp2
          go_meet
          exact ⟨b0, a0, rfl, rfl, by omega, by omega, TT2, G2⟩
      case rest =>
        obtain ⟨a, b, rfl, rfl, hab, hbn, TT2, G2⟩ := hcut
        clear ha0 hb0 ha1 hb1 hz TT1 G1
        generalize hw2 : wc = w2 at *
        clear hw2
        have FQ := flt_one14 (N := N) (T := []) (by omega) hab hbn (by simp) vld_nil
        have QM0 := qm_of (N := N) (x := x) (by omega) hab hbn hxN
        obtain ⟨Q, hQ⟩ : ∃ Q, elG N [] 0 [((a : Int), (b : Int), [])] = Q := ⟨_, rfl⟩
        rw [hQ] at QM0
        have QM := Hid.mk7 QM0
        have QEQ := Hid.mk7 hQ
        clear hQ QM0
        cases hv : vld s.data.toList with
        | false =>
          have FP := flt_bad14 (N := N) (a := a) (by omega) (by omega) hv
          clear hv
          have bz : RowKit.Below w2.heap.size w2 (w2.alloc (.cells #[.int .i64 (a : Nat), .int .i64 (a : Nat), .string s] 38)) := below_newE (RowKit.Below.refl _ _) _
          have A21 := Hid.mk7 (el_lit14 w2 (w2.heap.size) (rfl) [((a : Int), (a : Int), s.data.toList)] #[.int .i64 (a : Nat), .int .i64 (a : Nat), .string s] 38 (by rw [c3_one, cacc_bytes]) 1 rfl)
          have T22 := Hid.mk7 (TT2.out.later bz)
          have G22 := Hid.mk7 (G2.out.trans (bz.mono G2.out.size))
          clear TT2 G2 bz
          go_wp2_with fail
          refine (build_bv (tb := tb) FP (by omega) (fun e he => by simp at he; subst he; simp only; omega) (by simp) A21.out T22.out).mono ?_
          rintro e w23 ⟨rfl, bz⟩
          have T24 := Hid.mk7 (T22.out.later bz)
          have G24 := Hid.mk7 (G22.out.trans (bz.mono G22.out.size))
          have A24 := Hid.mk7 (A21.out.later bz)
          clear T22 G22 A21 bz
          clear A24
          have bz : RowKit.Below w23.heap.size w23 (w23.alloc (.cells #[.int .i64 0, .slice none 0 0] 24)) := below_newE (RowKit.Below.refl _ _) _
          have nw25 := Hid.mk7 (@Rd.new w23 (.int .i64 0) (.slice none 0 0))
          have T26 := Hid.mk7 (T24.out.later bz)
          have G26 := Hid.mk7 (G24.out.trans (bz.mono G24.out.size))
          clear T24 G24 bz
          have bz : RowKit.Below (w23.alloc (.cells #[.int .i64 0, .slice none 0 0] 24)).heap.size (w23.alloc (.cells #[.int .i64 0, .slice none 0 0] 24)) ((w23.alloc (.cells #[.int .i64 0, .slice none 0 0] 24)).alloc (.cells #[.int .i64 (a : Nat), .int .i64 (b : Nat), .string ⟨#[]⟩] 38)) := below_newE (RowKit.Below.refl _ _) _
          have B27 := Hid.mk7 (el_lit14 (w23.alloc (.cells #[.int .i64 0, .slice none 0 0] 24)) (w23.heap.size + 1) (by simp) [((a : Int), (b : Int), [])] #[.int .i64 (a : Nat), .int .i64 (b : Nat), .string ⟨#[]⟩] 38 rfl 1 rfl)
          have T28 := Hid.mk7 (T26.out.later bz)
          have G28 := Hid.mk7 (G26.out.trans (bz.mono G26.out.size))
          have RA28 := Hid.mk7 (nw25.out.later bz)
          clear T26 G26 nw25 bz
          have RAc0 := RA28.out.c0
          have RAc1 := RA28.out.c1
          go_wp2_with fail
          refine (build_v (tb := tb) FQ QEQ.out QM.out.len (fun e he => by simp at he; subst he; simp) (by simp) (by rw [inS_one14]; simp) B27.out T28.out).mono ?_
          rintro e w29 ⟨v7, rfl, h7, bz⟩
          clear RAc0 RAc1
          obtain ⟨a7, c7, rfl, _, _, _⟩ := id h7
          have T30 := Hid.mk7 (T28.out.later bz)
          have G30 := Hid.mk7 (G28.out.trans (bz.mono G28.out.size))
          have RA30 := Hid.mk7 (RA28.out.later bz)
          have B30 := Hid.mk7 (B27.out.later bz)
          clear T28 G28 RA28 B27 bz
          have EB31 := Hid.mk7 (h7)
          clear h7
          clear B30
          have bz : RowKit.Below w29.heap.size w29 (w29.alloc (.cells #[.int .i64 (N : Nat), .slice a7 Q.length c7] 24)) := below_newE (RowKit.Below.refl _ _) _
          have nw32 := Hid.mk7 (@Rd.new w29 (.int .i64 (N : Nat)) (.slice a7 Q.length c7))
          have T33 := Hid.mk7 (T30.out.later bz)
          have G33 := Hid.mk7 (G30.out.trans (bz.mono G30.out.size))
          have RA33 := Hid.mk7 (RA30.out.later bz)
          have EB33 := Hid.mk7 (EB31.out.later bz)
          clear T30 G30 RA30 EB31 bz
          go_wp2
          go_ret
          exact ⟨rfl, G33.out⟩
        | true =>
          have FP := flt_one14 (N := N) (by omega) (Nat.le_refl a) (by omega) hTl hv
          have PM0 := pm_of (N := N) (x := x) (by omega) (show a ≤ N by omega) hxN hTl hv
          obtain ⟨P, hP⟩ : ∃ P, elG N [] 0 [((a : Int), (a : Int), s.data.toList)] = P := ⟨_, rfl⟩
          rw [hP] at PM0
          have PM := Hid.mk7 PM0
          have PEQ := Hid.mk7 hP
          clear hP PM0 hv
          have bz : RowKit.Below w2.heap.size w2 (w2.alloc (.cells #[.int .i64 (a : Nat), .int .i64 (a : Nat), .string s] 38)) := below_newE (RowKit.Below.refl _ _) _
          have A21 := Hid.mk7 (el_lit14 w2 (w2.heap.size) (rfl) [((a : Int), (a : Int), s.data.toList)] #[.int .i64 (a : Nat), .int .i64 (a : Nat), .string s] 38 (by rw [c3_one, cacc_bytes]) 1 rfl)
          have T22 := Hid.mk7 (TT2.out.later bz)
          have G22 := Hid.mk7 (G2.out.trans (bz.mono G2.out.size))
          clear TT2 G2 bz
          go_wp2_with fail
          refine (build_v (tb := tb) FP PEQ.out PM.out.len (fun e he => by simp at he; subst he; simp only; omega) (by simp) (by rw [inS_one14]; omega) A21.out T22.out).mono ?_
          rintro e w23 ⟨v6, rfl, h6, bz⟩
          obtain ⟨a6, c6, rfl, _, _, _⟩ := id h6
          have T24 := Hid.mk7 (T22.out.later bz)
          have G24 := Hid.mk7 (G22.out.trans (bz.mono G22.out.size))
          have A24 := Hid.mk7 (A21.out.later bz)
          clear T22 G22 A21 bz
          have EA25 := Hid.mk7 (h6)
          clear h6
          clear A24
          have bz : RowKit.Below w23.heap.size w23 (w23.alloc (.cells #[.int .i64 (N : Nat), .slice a6 P.length c6] 24)) := below_newE (RowKit.Below.refl _ _) _
          have nw26 := Hid.mk7 (@Rd.new w23 (.int .i64 (N : Nat)) (.slice a6 P.length c6))
          have T27 := Hid.mk7 (T24.out.later bz)
          have G27 := Hid.mk7 (G24.out.trans (bz.mono G24.out.size))
          have EA27 := Hid.mk7 (EA25.out.later bz)
          clear T24 G24 EA25 bz
          have bz : RowKit.Below (w23.alloc (.cells #[.int .i64 (N : Nat), .slice a6 P.length c6] 24)).heap.size (w23.alloc (.cells #[.int .i64 (N : Nat), .slice a6 P.length c6] 24)) ((w23.alloc (.cells #[.int .i64 (N : Nat), .slice a6 P.length c6] 24)).alloc (.cells #[.int .i64 (a : Nat), .int .i64 (b : Nat), .string ⟨#[]⟩] 38)) := below_newE (RowKit.Below.refl _ _) _
          have B28 := Hid.mk7 (el_lit14 (w23.alloc (.cells #[.int .i64 (N : Nat), .slice a6 P.length c6] 24)) (w23.heap.size + 1) (by simp) [((a : Int), (b : Int), [])] #[.int .i64 (a : Nat), .int .i64 (b : Nat), .string ⟨#[]⟩] 38 rfl 1 rfl)
          have T29 := Hid.mk7 (T27.out.later bz)
          have G29 := Hid.mk7 (G27.out.trans (bz.mono G27.out.size))
          have EA29 := Hid.mk7 (EA27.out.later bz)
          have RA29 := Hid.mk7 (nw26.out.later bz)
          clear T27 G27 EA27 nw26 bz
          have RAc0 := RA29.out.c0
          have RAc1 := RA29.out.c1
          go_wp2_with fail
          refine (build_v (tb := tb) FQ QEQ.out QM.out.len (fun e he => by simp at he; subst he; simp) (by simp) (by rw [inS_one14]; simp) B28.out T29.out).mono ?_
          rintro e w30 ⟨v7, rfl, h7, bz⟩
          clear RAc0 RAc1
          obtain ⟨a7, c7, rfl, _, _, _⟩ := id h7
          have T31 := Hid.mk7 (T29.out.later bz)
          have G31 := Hid.mk7 (G29.out.trans (bz.mono G29.out.size))
          have EA31 := Hid.mk7 (EA29.out.later bz)
          have RA31 := Hid.mk7 (RA29.out.later bz)
          have B31 := Hid.mk7 (B28.out.later bz)
          clear T29 G29 EA29 RA29 B28 bz
          have EB32 := Hid.mk7 (h7)
          clear h7
          clear B31
          have bz : RowKit.Below w30.heap.size w30 (w30.alloc (.cells #[.int .i64 (N : Nat), .slice a7 Q.length c7] 24)) := below_newE (RowKit.Below.refl _ _) _
          have nw33 := Hid.mk7 (@Rd.new w30 (.int .i64 (N : Nat)) (.slice a7 Q.length c7))
          have T34 := Hid.mk7 (T31.out.later bz)
          have G34 := Hid.mk7 (G31.out.trans (bz.mono G31.out.size))
          have EA34 := Hid.mk7 (EA31.out.later bz)
          have RA34 := Hid.mk7 (RA31.out.later bz)
          have EB34 := Hid.mk7 (EB32.out.later bz)
          clear T31 G31 EA31 RA31 EB32 bz
          have RAc0 := RA34.out.c0
          have RAc1 := RA34.out.c1
          have RBc0 := nw33.out.c0
          have RBc1 := nw33.out.c1
          go_upto_region 10 with fail
          clear RAc0 RAc1 RBc0 RBc1
          generalize w30.alloc (.cells #[.int .i64 (N : Nat), .slice a7 Q.length c7] 24) = w9 at *
          rcases (show x < a ∨ x = a ∨ (a < x ∧ x ≤ b) ∨ (a < x ∧ b < x) by omega) with h1 | h1 | h1 | h1
          · skip
            have t2 : decide ((a : Int) < (x : Int)) = false := decide_eq_false (by omega)
            have t2n : decide (a < x) = false := decide_eq_false (by omega)
            have t3 : ((x : Int) == (a : Int)) = false := by simp; omega
            have t3n : (x == a) = false := by simp; omega
            have Z0 := Hid.mk7 (show mvV N P x false = (x : Int) by rw [PM.out.no, bytes_length]; split <;> omega)
            have Z1 := Hid.mk7 (show mvV N P x true = (x : Int) by rw [PM.out.yes, bytes_length]; split <;> omega)
            have Z2 := Hid.mk7 (show mvV N Q x false = (x : Int) by rw [QM.out.no, Int.max_def]; repeat' split <;> omega)
            have Z3 := Hid.mk7 (show mvV N Q x true = (x : Int) by rw [QM.out.yes, Int.max_def]; repeat' split <;> omega)
            have RAc0 := RA34.out.c0
            have RAc1 := RA34.out.c1
            have RBc0 := nw33.out.c0
            have RBc1 := nw33.out.c1
            go_wp2_with fail
            refine (move_w Z0.out PM.out.is EA34.out T34.out).mono ?_
            rintro e w35 ⟨rfl, bz⟩
            clear RAc0 RAc1 RBc0 RBc1
            have T36 := Hid.mk7 (T34.out.later bz)
            have G36 := Hid.mk7 (G34.out.trans (bz.mono G34.out.size))
            have EA36 := Hid.mk7 (EA34.out.later bz)
            have RA36 := Hid.mk7 (RA34.out.later bz)
            have EB36 := Hid.mk7 (EB34.out.later bz)
            have RB36 := Hid.mk7 (nw33.out.later bz)
            clear T34 G34 EA34 RA34 EB34 nw33 bz
            have RAc0 := RA36.out.c0
            have RAc1 := RA36.out.c1
            have RBc0 := RB36.out.c0
            have RBc1 := RB36.out.c1
            go_wp2_with fail
            refine (move_w Z1.out PM.out.is EA36.out T36.out).mono ?_
            rintro e w37 ⟨rfl, bz⟩
            clear RAc0 RAc1 RBc0 RBc1
            have T38 := Hid.mk7 (T36.out.later bz)
            have G38 := Hid.mk7 (G36.out.trans (bz.mono G36.out.size))
            have EA38 := Hid.mk7 (EA36.out.later bz)
            have RA38 := Hid.mk7 (RA36.out.later bz)
            have EB38 := Hid.mk7 (EB36.out.later bz)
            have RB38 := Hid.mk7 (RB36.out.later bz)
            clear T36 G36 EA36 RA36 EB36 RB36 bz
            have RAc0 := RA38.out.c0
            have RAc1 := RA38.out.c1
            have RBc0 := RB38.out.c0
            have RBc1 := RB38.out.c1
            go_wp2_with fail
            refine (move_w Z2.out QM.out.is EB38.out T38.out).mono ?_
            rintro e w39 ⟨rfl, bz⟩
            clear RAc0 RAc1 RBc0 RBc1
            have T40 := Hid.mk7 (T38.out.later bz)
            have G40 := Hid.mk7 (G38.out.trans (bz.mono G38.out.size))
            have EA40 := Hid.mk7 (EA38.out.later bz)
            have RA40 := Hid.mk7 (RA38.out.later bz)
            have EB40 := Hid.mk7 (EB38.out.later bz)
            have RB40 := Hid.mk7 (RB38.out.later bz)
            clear T38 G38 EA38 RA38 EB38 RB38 bz
            have RAc0 := RA40.out.c0
            have RAc1 := RA40.out.c1
            have RBc0 := RB40.out.c0
            have RBc1 := RB40.out.c1
            go_wp2_with fail
            refine (move_w Z3.out QM.out.is EB40.out T40.out).mono ?_
            rintro e w41 ⟨rfl, bz⟩
            clear RAc0 RAc1 RBc0 RBc1
            have T42 := Hid.mk7 (T40.out.later bz)
            have G42 := Hid.mk7 (G40.out.trans (bz.mono G40.out.size))
            have EA42 := Hid.mk7 (EA40.out.later bz)
            have RA42 := Hid.mk7 (RA40.out.later bz)
            have EB42 := Hid.mk7 (EB40.out.later bz)
            have RB42 := Hid.mk7 (RB40.out.later bz)
            clear T40 G40 EA40 RA40 EB40 RB40 bz
            go_wp2
            go_ret
            exact ⟨rfl, G42.out⟩
          · skip
            subst h1
            have t2 : decide ((x : Int) < (x : Int)) = false := decide_eq_false (by omega)
            have t2n : decide (x < x) = false := decide_eq_false (by omega)
            have t3 : ((x : Int) == (x : Int)) = true := by simp
            have t3n : (x == x) = true := by simp
            have Z0 := Hid.mk7 (show mvV N P x false = (x : Int) by rw [PM.out.no, bytes_length]; split <;> omega)
            have Z1 := Hid.mk7 (show mvV N P x true = (x : Int) + (s.size : Nat) by rw [PM.out.yes, bytes_length]; split <;> omega)
            have Z2 := Hid.mk7 (show mvV N Q x false = (x : Int) by rw [QM.out.no, Int.max_def]; repeat' split <;> omega)
            have Z3 := Hid.mk7 (show mvV N Q x true = (x : Int) by rw [QM.out.yes, Int.max_def]; repeat' split <;> omega)
            have RAc0 := RA34.out.c0
            have RAc1 := RA34.out.c1
            have RBc0 := nw33.out.c0
            have RBc1 := nw33.out.c1
            go_wp2_with fail
            refine (move_w Z0.out PM.out.is EA34.out T34.out).mono ?_
            rintro e w35 ⟨rfl, bz⟩
            clear RAc0 RAc1 RBc0 RBc1
            have T36 := Hid.mk7 (T34.out.later bz)
            have G36 := Hid.mk7 (G34.out.trans (bz.mono G34.out.size))
            have EA36 := Hid.mk7 (EA34.out.later bz)
            have RA36 := Hid.mk7 (RA34.out.later bz)
            have EB36 := Hid.mk7 (EB34.out.later bz)
            have RB36 := Hid.mk7 (nw33.out.later bz)
            clear T34 G34 EA34 RA34 EB34 nw33 bz
            have RAc0 := RA36.out.c0
            have RAc1 := RA36.out.c1
            have RBc0 := RB36.out.c0
            have RBc1 := RB36.out.c1
            go_wp2_with fail
            refine (move_w Z1.out PM.out.is EA36.out T36.out).mono ?_
            rintro e w37 ⟨rfl, bz⟩
            clear RAc0 RAc1 RBc0 RBc1
            have T38 := Hid.mk7 (T36.out.later bz)
            have G38 := Hid.mk7 (G36.out.trans (bz.mono G36.out.size))
            have EA38 := Hid.mk7 (EA36.out.later bz)
            have RA38 := Hid.mk7 (RA36.out.later bz)
            have EB38 := Hid.mk7 (EB36.out.later bz)
            have RB38 := Hid.mk7 (RB36.out.later bz)
            clear T36 G36 EA36 RA36 EB36 RB36 bz
            have RAc0 := RA38.out.c0
            have RAc1 := RA38.out.c1
            have RBc0 := RB38.out.c0
            have RBc1 := RB38.out.c1
            go_wp2_with fail
            refine (move_w Z2.out QM.out.is EB38.out T38.out).mono ?_
            rintro e w39 ⟨rfl, bz⟩
            clear RAc0 RAc1 RBc0 RBc1
            have T40 := Hid.mk7 (T38.out.later bz)
            have G40 := Hid.mk7 (G38.out.trans (bz.mono G38.out.size))
            have EA40 := Hid.mk7 (EA38.out.later bz)
            have RA40 := Hid.mk7 (RA38.out.later bz)
            have EB40 := Hid.mk7 (EB38.out.later bz)
            have RB40 := Hid.mk7 (RB38.out.later bz)
            clear T38 G38 EA38 RA38 EB38 RB38 bz
            have RAc0 := RA40.out.c0
            have RAc1 := RA40.out.c1
            have RBc0 := RB40.out.c0
            have RBc1 := RB40.out.c1
            go_wp2_with fail
            refine (move_w Z3.out QM.out.is EB40.out T40.out).mono ?_
            rintro e w41 ⟨rfl, bz⟩
            clear RAc0 RAc1 RBc0 RBc1
            have T42 := Hid.mk7 (T40.out.later bz)
            have G42 := Hid.mk7 (G40.out.trans (bz.mono G40.out.size))
            have EA42 := Hid.mk7 (EA40.out.later bz)
            have RA42 := Hid.mk7 (RA40.out.later bz)
            have EB42 := Hid.mk7 (EB40.out.later bz)
            have RB42 := Hid.mk7 (RB40.out.later bz)
            clear T40 G40 EA40 RA40 EB40 RB40 bz
            go_wp2
            go_ret
            exact ⟨rfl, G42.out⟩
          · skip
            have t2 : decide ((a : Int) < (x : Int)) = true := decide_eq_true (by omega)
            have t2n : decide (a < x) = true := decide_eq_true (by omega)
            have t3 : ((x : Int) == (a : Int)) = false := by simp; omega
            have t3n : (x == a) = false := by simp; omega
            have Z0 := Hid.mk7 (show mvV N P x false = (x : Int) + (s.size : Nat) by rw [PM.out.no, bytes_length]; split <;> omega)
            have Z1 := Hid.mk7 (show mvV N P x true = (x : Int) + (s.size : Nat) by rw [PM.out.yes, bytes_length]; split <;> omega)
            have Z2 := Hid.mk7 (show mvV N Q x false = (a : Int) by rw [QM.out.no, Int.max_def]; repeat' split <;> omega)
            have Z3 := Hid.mk7 (show mvV N Q x true = (a : Int) by rw [QM.out.yes, Int.max_def]; repeat' split <;> omega)
            have RAc0 := RA34.out.c0
            have RAc1 := RA34.out.c1
            have RBc0 := nw33.out.c0
            have RBc1 := nw33.out.c1
            go_wp2_with fail
            refine (move_w Z0.out PM.out.is EA34.out T34.out).mono ?_
            rintro e w35 ⟨rfl, bz⟩
            clear RAc0 RAc1 RBc0 RBc1
            have T36 := Hid.mk7 (T34.out.later bz)
            have G36 := Hid.mk7 (G34.out.trans (bz.mono G34.out.size))
            have EA36 := Hid.mk7 (EA34.out.later bz)
            have RA36 := Hid.mk7 (RA34.out.later bz)
            have EB36 := Hid.mk7 (EB34.out.later bz)
            have RB36 := Hid.mk7 (nw33.out.later bz)
            clear T34 G34 EA34 RA34 EB34 nw33 bz
            have RAc0 := RA36.out.c0
            have RAc1 := RA36.out.c1
            have RBc0 := RB36.out.c0
            have RBc1 := RB36.out.c1
            go_wp2_with fail
            refine (move_w Z1.out PM.out.is EA36.out T36.out).mono ?_
            rintro e w37 ⟨rfl, bz⟩
            clear RAc0 RAc1 RBc0 RBc1
            have T38 := Hid.mk7 (T36.out.later bz)
            have G38 := Hid.mk7 (G36.out.trans (bz.mono G36.out.size))
            have EA38 := Hid.mk7 (EA36.out.later bz)
            have RA38 := Hid.mk7 (RA36.out.later bz)
            have EB38 := Hid.mk7 (EB36.out.later bz)
            have RB38 := Hid.mk7 (RB36.out.later bz)
            clear T36 G36 EA36 RA36 EB36 RB36 bz
            have RAc0 := RA38.out.c0
            have RAc1 := RA38.out.c1
            have RBc0 := RB38.out.c0
            have RBc1 := RB38.out.c1
            go_wp2_with fail
            refine (move_w Z2.out QM.out.is EB38.out T38.out).mono ?_
            rintro e w39 ⟨rfl, bz⟩
            clear RAc0 RAc1 RBc0 RBc1
            have T40 := Hid.mk7 (T38.out.later bz)
            have G40 := Hid.mk7 (G38.out.trans (bz.mono G38.out.size))
            have EA40 := Hid.mk7 (EA38.out.later bz)
            have RA40 := Hid.mk7 (RA38.out.later bz)
            have EB40 := Hid.mk7 (EB38.out.later bz)
            have RB40 := Hid.mk7 (RB38.out.later bz)
            clear T38 G38 EA38 RA38 EB38 RB38 bz
            have RAc0 := RA40.out.c0
            have RAc1 := RA40.out.c1
            have RBc0 := RB40.out.c0
            have RBc1 := RB40.out.c1
            go_wp2_with fail
            refine (move_w Z3.out QM.out.is EB40.out T40.out).mono ?_
            rintro e w41 ⟨rfl, bz⟩
            clear RAc0 RAc1 RBc0 RBc1
            have T42 := Hid.mk7 (T40.out.later bz)
            have G42 := Hid.mk7 (G40.out.trans (bz.mono G40.out.size))
            have EA42 := Hid.mk7 (EA40.out.later bz)
            have RA42 := Hid.mk7 (RA40.out.later bz)
            have EB42 := Hid.mk7 (EB40.out.later bz)
            have RB42 := Hid.mk7 (RB40.out.later bz)
            clear T40 G40 EA40 RA40 EB40 RB40 bz
            go_wp2
            go_ret
            exact ⟨rfl, G42.out⟩
          · skip
            have t2 : decide ((a : Int) < (x : Int)) = true := decide_eq_true (by omega)
            have t2n : decide (a < x) = true := decide_eq_true (by omega)
            have t3 : ((x : Int) == (a : Int)) = false := by simp; omega
            have t3n : (x == a) = false := by simp; omega
            have Z0 := Hid.mk7 (show mvV N P x false = (x : Int) + (s.size : Nat) by rw [PM.out.no, bytes_length]; split <;> omega)
            have Z1 := Hid.mk7 (show mvV N P x true = (x : Int) + (s.size : Nat) by rw [PM.out.yes, bytes_length]; split <;> omega)
            have Z2 := Hid.mk7 (show mvV N Q x false = (x : Int) - ((b : Int) - a) by rw [QM.out.no, Int.max_def]; repeat' split <;> omega)
            have Z3 := Hid.mk7 (show mvV N Q x true = (x : Int) - ((b : Int) - a) by rw [QM.out.yes, Int.max_def]; repeat' split <;> omega)
            have RAc0 := RA34.out.c0
            have RAc1 := RA34.out.c1
            have RBc0 := nw33.out.c0
            have RBc1 := nw33.out.c1
            go_wp2_with fail
            refine (move_w Z0.out PM.out.is EA34.out T34.out).mono ?_
            rintro e w35 ⟨rfl, bz⟩
            clear RAc0 RAc1 RBc0 RBc1
            have T36 := Hid.mk7 (T34.out.later bz)
            have G36 := Hid.mk7 (G34.out.trans (bz.mono G34.out.size))
            have EA36 := Hid.mk7 (EA34.out.later bz)
            have RA36 := Hid.mk7 (RA34.out.later bz)
            have EB36 := Hid.mk7 (EB34.out.later bz)
            have RB36 := Hid.mk7 (nw33.out.later bz)
            clear T34 G34 EA34 RA34 EB34 nw33 bz
            have RAc0 := RA36.out.c0
            have RAc1 := RA36.out.c1
            have RBc0 := RB36.out.c0
            have RBc1 := RB36.out.c1
            go_wp2_with fail
            refine (move_w Z1.out PM.out.is EA36.out T36.out).mono ?_
            rintro e w37 ⟨rfl, bz⟩
            clear RAc0 RAc1 RBc0 RBc1
            have T38 := Hid.mk7 (T36.out.later bz)
            have G38 := Hid.mk7 (G36.out.trans (bz.mono G36.out.size))
            have EA38 := Hid.mk7 (EA36.out.later bz)
            have RA38 := Hid.mk7 (RA36.out.later bz)
            have EB38 := Hid.mk7 (EB36.out.later bz)
            have RB38 := Hid.mk7 (RB36.out.later bz)
            clear T36 G36 EA36 RA36 EB36 RB36 bz
            have RAc0 := RA38.out.c0
            have RAc1 := RA38.out.c1
            have RBc0 := RB38.out.c0
            have RBc1 := RB38.out.c1
            go_wp2_with fail
            refine (move_w Z2.out QM.out.is EB38.out T38.out).mono ?_
            rintro e w39 ⟨rfl, bz⟩
            clear RAc0 RAc1 RBc0 RBc1
            have T40 := Hid.mk7 (T38.out.later bz)
            have G40 := Hid.mk7 (G38.out.trans (bz.mono G38.out.size))
            have EA40 := Hid.mk7 (EA38.out.later bz)
            have RA40 := Hid.mk7 (RA38.out.later bz)
            have EB40 := Hid.mk7 (EB38.out.later bz)
            have RB40 := Hid.mk7 (RB38.out.later bz)
            clear T38 G38 EA38 RA38 EB38 RB38 bz
            have RAc0 := RA40.out.c0
            have RAc1 := RA40.out.c1
            have RBc0 := RB40.out.c0
            have RBc1 := RB40.out.c1
            go_wp2_with fail
            refine (move_w Z3.out QM.out.is EB40.out T40.out).mono ?_
            rintro e w41 ⟨rfl, bz⟩
            clear RAc0 RAc1 RBc0 RBc1
            have T42 := Hid.mk7 (T40.out.later bz)
            have G42 := Hid.mk7 (G40.out.trans (bz.mono G40.out.size))
            have EA42 := Hid.mk7 (EA40.out.later bz)
            have RA42 := Hid.mk7 (RA40.out.later bz)
            have EB42 := Hid.mk7 (EB40.out.later bz)
            have RB42 := Hid.mk7 (RB40.out.later bz)
            clear T40 G40 EA40 RA40 EB40 RB40 bz
            go_wp2
            go_ret
            exact ⟨rfl, G42.out⟩
end Go.Proofs.YtelpinngimohoaaDoor
