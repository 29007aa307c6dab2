/- palinodelaw15's SpansGo walked. -/
import Derived.Test.YtmgjfmgkmlfjeaaDoorSpKnown
import Derived.Test.YtmgjfmgkmlfjeaaDoorSpEditP
import Derived.Test.YtmgjfmgkmlfjeaaDoorSpGoM
import Derived.Test.YtmgjfmgkmlfjeaaDoorOffHelp
namespace Go.Proofs.YtmgjfmgkmlfjeaaDoor
open Go.RowKit Go.Sort Go.Lib
set_option linter.unusedSimpArgs false
set_option linter.unusedVariables false

theorem edit_v15 {w : World} {v ev : Value} {L U : List Sp} {es : List El} {base : Int} {tb : Nat × Nat} (h : SpAt w v L) (he : ElAt w ev es) (hT : Tab w tb) (hi : isB base es = true) (hs : isS base L = true) (hu : edS base es L = U) :
    Calls Tryd.prog 9 #[v, .agg #[.int .i64 base, ev]] w fun e w' => ∃ v', e = .returned (.tuple #[v', .int .i64 0]) ∧ SpAt w' v' U ∧ RowKit.Below w.heap.size w w' := by
  obtain ⟨e1, e2⟩ := edE_ok ⟨hi, hs⟩
  have := edit_any15 base h he ((dl_of hi).sm.mono (by omega)) tb hT
  rw [e1, e2, hu] at this
  exact this
set_option maxHeartbeats 16000000 in
set_option maxRecDepth 100000 in
theorem go15_any (n at' : Int) (l : List Sp) (s : ByteArray) (hn : 0 ≤ n ∧ n ≤ 255) (hx : 0 ≤ at' ∧ at' ≤ 255) {w : World} {v : Value} (hl : l.length ≤ maxLen) (hs : s.size ≤ maxLen) (tb : Nat × Nat) (hT : Tab w tb) (h : SpAt w v l) :
    Calls Tryd.prog 4 #[.int .u8 n, v, .int .u8 at', .string s] w fun e w' => e = .returned (.bool true) ∧ RowKit.Below w.heap.size w w' := by
  have HK := Hid.mk7 (known15_any w)
  have HT := Hid.mk7 hT
  have HV := Hid.mk7 h
  obtain ⟨a, cap, rfl⟩ := h.shape
  clear h hT
  by_cases h15 : 15 < l.length
  · have d15 : decide ((15 : Int) < (l.length : Nat)) = true := decide_eq_true (by omega)
    have d15b : decide (15 < l.length) = true := decide_eq_true h15
    go_enter Tryd.func4, Tryd.ntmps4
    go_wp2_with fail
    refine HK.out.mono ?_
    rintro e w1 ⟨rfl, b1⟩
    go_wp2
    go_ret
    exact ⟨rfl, b1⟩
  have d15 : decide ((15 : Int) < (l.length : Nat)) = false := decide_eq_false (by omega)
  have d15b : decide (15 < l.length) = false := decide_eq_false h15
  by_cases h40 : 40 < s.size
  · have d40 : decide ((40 : Int) < (s.size : Int)) = true := decide_eq_true (by omega)
    have d40b : decide (40 < s.size) = true := decide_eq_true h40
    go_enter Tryd.func4, Tryd.ntmps4
    go_wp2_with fail
    refine HK.out.mono ?_
    rintro e w1 ⟨rfl, b1⟩
    go_wp2
    go_ret
    exact ⟨rfl, b1⟩
  have d40 : decide ((40 : Int) < (s.size : Int)) = false := decide_eq_false (by omega)
  have d40b : decide (40 < s.size) = false := decide_eq_false h40
  obtain ⟨m, hm⟩ : ∃ m : Nat, n % 100 = (m : Int) := ⟨(n % 100).toNat, by omega⟩
  have hm1 : m < 100 := by omega
  have hTl : s.data.toList.length ≤ 1000 := by rw [bytes_length]; omega
  go_enter Tryd.func4, Tryd.ntmps4
  go_wp2_with fail
  refine HK.out.mono ?_
  rintro e w1 ⟨rfl, b1⟩
  have T1 := Hid.mk7 (HT.out.later b1)
  have G1 := Hid.mk7 b1
  have V1 := Hid.mk7 (HV.out.later b1)
  clear HK b1 HT HV
  go_upto_region 5 with fail
  clear d15 d15b d40 d40b
  go_cut [9] from 36 to 40 (fun s9 wx => ∃ N : Nat, s9 = .int .i64 (N : Nat) ∧ 2 ≤ N ∧ N ≤ 101 ∧ wx = w1)
  case first =>
    go_wp2
    go_meet
    exact ⟨m + 2, by simp, by omega, by omega, rfl⟩
  case rest =>
    obtain ⟨N, rfl, hN1, hN, rfl⟩ := hcut
    clear hm hm1
    go_wp2
    go_loopw [10, 11] (fun mv iv wr => ∃ (i : Nat) (M : List Sp), i ≤ l.length ∧ M.length ≤ 2 * i ∧ iv = .int .i64 (i : Nat) ∧ Hid (SpAt wr mv M) ∧ Hid (OkS N 0 0 M) ∧ Hid (Below wc.heap.size wc wr)) (fun _ iv _ => l.length - (intOf iv).toNat)
    case atStart => exact ⟨0, [], Nat.zero_le _, Nat.le_refl _, rfl, SpAt.nil _, trivial, Below.refl _ _⟩
    case round =>
      obtain ⟨i, M, hi, hml, rfl, HM, HO, HB⟩ := hrel
      by_cases hlt : i < l.length
      · obtain ⟨⟨x, y, z⟩, hr⟩ : ∃ r, l[i]? = some r := ⟨l[i], List.getElem?_eq_getElem hlt⟩
        obtain ⟨_, _, e1, _, _, hc⟩ := id V1.out
        cases e1
        obtain ⟨g1, o1, rfl, q0, q1, q2⟩ := hc i _ hr
        have c0 := cell_later7 HB.out (Nat.le_refl _) q0
        have c1 := cell_later7 HB.out (Nat.le_refl _) q1
        have c2 := cell_later7 HB.out (Nat.le_refl _) q2
        simp only at c0 c1 c2
        clear q0 q1 q2 hc hr
        have HM1 := Hid.mk7 (HM.out.alloc (.cells #[.int .i64 x, .int .i64 y, .int .i64 z] 24))
        have HB1 := Hid.mk7 (below15 HB.out (.cells #[.int .i64 x, .int .i64 y, .int .i64 z] 24))
        have HP1 := Hid.mk7 (Rt.new 24 wr (.int .i64 x) (.int .i64 y) (.int .i64 z))
        have p0 := HP1.out.c0
        have p1 := HP1.out.c1
        have p2 := HP1.out.c2
        clear HM HB
        by_cases t0 : x < 0
        · have s0 : decide (x < 0) = true := decide_eq_true t0
          have GB := Hid.mk7 (G1.out.trans (HB1.out.mono G1.out.size))
          clear HB1 HM1
          go_wp2
          go_ret
          exact ⟨rfl, GB.out⟩
        have s0 : decide (x < 0) = false := decide_eq_false t0
        by_cases t1 : y < x
        · have s1 : decide (y < x) = true := decide_eq_true t1
          have GB := Hid.mk7 (G1.out.trans (HB1.out.mono G1.out.size))
          clear HB1 HM1
          go_wp2
          go_ret
          exact ⟨rfl, GB.out⟩
        have s1 : decide (y < x) = false := decide_eq_false t1
        by_cases t2 : (N : Int) < y
        · have s2 : decide ((N : Int) < y) = true := decide_eq_true t2
          have GB := Hid.mk7 (G1.out.trans (HB1.out.mono G1.out.size))
          clear HB1 HM1
          go_wp2
          go_ret
          exact ⟨rfl, GB.out⟩
        have s2 : decide ((N : Int) < y) = false := decide_eq_false t2
        by_cases t3 : z < 0
        · have s3 : decide (z < 0) = true := decide_eq_true t3
          have GB := Hid.mk7 (G1.out.trans (HB1.out.mono G1.out.size))
          clear HB1 HM1
          go_wp2
          go_ret
          exact ⟨rfl, GB.out⟩
        have s3 : decide (z < 0) = false := decide_eq_false t3
        by_cases t4 : 100 < z
        · have s4 : decide (100 < z) = true := decide_eq_true t4
          have GB := Hid.mk7 (G1.out.trans (HB1.out.mono G1.out.size))
          clear HB1 HM1
          go_wp2
          go_ret
          exact ⟨rfl, GB.out⟩
        have s4 : decide (100 < z) = false := decide_eq_false t4
        obtain ⟨k1, k2, k3⟩ := put_go (z := z) (N := N) (by omega) HO.out (by omega) (show 0 ≤ x by omega) (show x ≤ y by omega) (by omega) (by omega) (by omega)
        have HO2 := Hid.mk7 k2
        have HPT := Hid.mk7 (put_v HM1.out k1 (show putL M (x, y, z) = putL M (x, y, z) from rfl))
        generalize putL M (x, y, z) = M2 at *
        clear k1 k2 HO t0 t1 t2 t3 t4
        go_wp2_with fail
        refine HPT.out.mono ?_
        rintro e w3 ⟨v3, rfl, h3, _, b3⟩
        have HM3 := Hid.mk7 h3
        have HB3 := Hid.mk7 (HB1.out.trans (b3.mono HB1.out.size))
        clear h3 b3 p0 p1 p2 c0 c1 c2 HB1 HM1 HP1 HPT s0 s1 s2 s3 s4
        go_wp2
        go_roundw
        case rel => exact ⟨i + 1, M2, by omega, by omega, by go_num, HM3, HO2, HB3⟩
        case measure => simp [intOf]; omega
      · obtain rfl : i = l.length := by omega
        have G2 := Hid.mk7 (G1.out.trans (HB.out.mono G1.out.size))
        have T2 := Hid.mk7 (T1.out.later HB.out)
        clear HB T1 G1 V1
        have hz : ¬ (N : Int) = 0 := by omega
        have hz2 : ¬ N = 0 := by omega
        obtain ⟨p0, hp0⟩ : ∃ p : Nat, at' % (N : Int) = (p : Int) := ⟨(at' % (N : Int)).toNat, by have := Int.emod_nonneg at' (show (N : Int) ≠ 0 by omega); omega⟩
        have hp1 : p0 < N := by have := Int.emod_lt_of_pos at' (show (0 : Int) < (N : Int) by omega); omega
        generalize hwr : wr = wq at *
        clear hwr
        go_upto_region 17 with fail
        go_cut [15] from 85 to 89 (fun s9 wx => ∃ p : Nat, s9 = .int .i64 (p : Nat) ∧ p < N ∧ wx = wq)
        case first =>
          go_wp2
          go_meet
          exact ⟨p0, by simp [hp0], by omega, rfl⟩
        case rest =>
          obtain ⟨p, rfl, hp, rfl⟩ := hcut
          clear hp0 hp1 hz hz2
          have bz : RowKit.Below wc.heap.size wc (wc.alloc (.cells #[.int .i64 (p : Nat), .int .i64 (p : Nat), .string s] 47)) := below_newE (RowKit.Below.refl _ _) _
          have A3 := Hid.mk7 (el_lit14 wc (wc.heap.size) rfl [((p : Int), (p : Int), s.data.toList)] #[.int .i64 (p : Nat), .int .i64 (p : Nat), .string s] 47 (by rw [c3_one, cacc_bytes]) 1 rfl)
          have T3 := Hid.mk7 (T2.out.later bz)
          have G3 := Hid.mk7 (G2.out.trans (bz.mono G2.out.size))
          have HM3 := Hid.mk7 (HM.out.later bz)
          clear T2 G2 HM bz
          cases hv : vld s.data.toList with
          | false =>
            have FP := flt_bad14 (N := N) (a := p) (by omega) (by omega) hv
            clear hv
            go_wp2_with fail
            refine (build_bv (tb := tb) FP (by omega) (fun e he => by simp at he; subst he; simp only; omega) (by simp) A3.out T3.out).mono ?_
            rintro e w4 ⟨rfl, b4⟩
            have G4 := Hid.mk7 (below15 (G3.out.trans (b4.mono G3.out.size)) (.cells #[.int .i64 0, .slice none 0 0] 27))
            clear T3 G3 A3 b4 HM3
            go_wp2
            go_ret
            exact ⟨rfl, G4.out⟩
          | true =>
            obtain ⟨FP, ib, gn0⟩ := gone_of (N := N) (p := p) (M := M) (by omega) (by omega) hTl hv HO.out (by omega)
            have hiM : isS N M = true := isS_spec.2 ⟨by omega, HO.out.mono (by omega)⟩
            clear hv
            have HIB := Hid.mk7 ib
            have HIM := Hid.mk7 hiM
            rw [bytes_length] at gn0
            obtain ⟨E, hE⟩ : ∃ E, elG N [] 0 [((p : Int), (p : Int), s.data.toList)] = E := ⟨_, rfl⟩
            obtain ⟨U, hU⟩ : ∃ U, edS N E M = U := ⟨_, rfl⟩
            rw [hE] at ib gn0 HIB
            rw [hU] at gn0
            have GN := Hid.mk7 gn0
            have HE := Hid.mk7 hE
            have HU := Hid.mk7 hU
            have h60 : E.length ≤ 60 := by rw [← hE]; exact elG_one14
            clear gn0 hU hE ib hiM
            go_wp2_with fail
            refine (build_v (tb := tb) FP HE.out h60 (fun e he => by simp at he; subst he; simp only; omega) (by simp) (by rw [inS_one14]; omega) A3.out T3.out).mono ?_
            rintro e w4 ⟨ev, rfl, e4, b4⟩
            obtain ⟨ea, ecap, rfl, _⟩ := id e4
            have E4 := Hid.mk7 e4
            have T4 := Hid.mk7 (T3.out.later b4)
            have G4 := Hid.mk7 (G3.out.trans (b4.mono G3.out.size))
            have HM4 := Hid.mk7 (HM3.out.later b4)
            clear T3 G3 A3 b4 HM3 e4 FP h60
            have bz : RowKit.Below w4.heap.size w4 (w4.alloc (.cells #[.int .i64 (N : Nat), .slice ea E.length ecap] 27)) := below_newE (RowKit.Below.refl _ _) _
            have D5 := Hid.mk7 (@Rd.new w4 (.int .i64 (N : Nat)) (.slice ea E.length ecap))
            have E5 := Hid.mk7 (E4.out.later bz)
            have T5 := Hid.mk7 (T4.out.later bz)
            have G5 := Hid.mk7 (G4.out.trans (bz.mono G4.out.size))
            have HM5 := Hid.mk7 (HM4.out.later bz)
            clear E4 T4 G4 HM4 bz
            have r0 := D5.out.c0
            have r1 := D5.out.c1
            go_wp2_with fail
            refine (edit_v15 HM5.out E5.out T5.out HIB.out HIM.out HU.out).mono ?_
            rintro e w6 ⟨uv, rfl, u6, b6⟩
            have U6 := Hid.mk7 u6
            have G6 := Hid.mk7 (G5.out.trans (b6.mono G5.out.size))
            have HM6 := Hid.mk7 (HM5.out.later b6)
            clear u6 b6 D5 E5 T5 G5 HM5 r0 r1 HIB HIM HU HE
            have HIS := Hid.mk7 (is15_v U6.out GN.out.iu)
            go_wp2_with fail
            refine HIS.out.mono ?_
            rintro e w7 ⟨rfl, b7⟩
            have U7 := Hid.mk7 (U6.out.later b7)
            have G7 := Hid.mk7 (G6.out.trans (b7.mono G6.out.size))
            have HM7 := Hid.mk7 (HM6.out.later b7)
            clear U6 G6 HM6 b7 HIS
            have hul := GN.out.ln
            have hml2 : M.length ≤ 60 := by omega
            go_wp2
            go_loopw [20] (fun iv wr => ∃ i : Nat, i ≤ N ∧ iv = .int .i64 (i : Nat) ∧ Hid (Below w7.heap.size w7 wr)) (fun iv _ => N - (intOf iv).toNat)
            case atStart => exact ⟨0, Nat.zero_le _, rfl, Below.refl _ _⟩
            case round =>
              obtain ⟨i, hi2, rfl, HB⟩ := hrel
              by_cases hlt : i < N
              · have HU8 := Hid.mk7 (U7.out.later HB.out)
                have dN : decide (i < N) = true := decide_eq_true hlt
                by_cases hpi : p ≤ i
                · have dp : decide (p ≤ i) = true := decide_eq_true hpi
                  have HQ := Hid.mk7 (GN.out.hi i hpi hlt)
                  obtain ⟨q, hq0⟩ : ∃ q, atS M (i : Int) = q := ⟨_, rfl⟩
                  rw [hq0] at HQ
                  have HQM := Hid.mk7 hq0
                  clear hq0
                  have HQ2 := Hid.mk7 (at_v (p := (i : Int) + (s.size : Nat)) HU8.out (by omega) HQ.out)
                  have hq : (q != q) = false := by simp
                  go_wp2_with fail
                  refine HQ2.out.mono ?_
                  rintro e w9 ⟨rfl, b9⟩
                  have HB9 := Hid.mk7 (HB.out.trans (b9.mono HB.out.size))
                  have HAM := Hid.mk7 (at_v (p := (i : Int)) (HM7.out.later HB9.out) (by omega) HQM.out)
                  clear b9 HQ2 HB HU8
                  go_wp2_with fail
                  refine HAM.out.mono ?_
                  rintro e w10 ⟨rfl, b10⟩
                  have HB10 := Hid.mk7 (HB9.out.trans (b10.mono HB9.out.size))
                  clear b10 HAM HB9 HQM HQ
                  go_wp2
                  go_roundw
                  case rel => exact ⟨i + 1, by omega, by go_num, HB10⟩
                  case measure => simp [intOf]; omega
                · have dp : decide (p ≤ i) = false := decide_eq_false hpi
                  have HQ := Hid.mk7 (GN.out.lo i (by omega))
                  obtain ⟨q, hq0⟩ : ∃ q, atS M (i : Int) = q := ⟨_, rfl⟩
                  rw [hq0] at HQ
                  have HQM := Hid.mk7 hq0
                  clear hq0
                  have HQ2 := Hid.mk7 (at_v (p := (i : Int)) HU8.out (by omega) HQ.out)
                  have hq : (q != q) = false := by simp
                  go_wp2_with fail
                  refine HQ2.out.mono ?_
                  rintro e w9 ⟨rfl, b9⟩
                  have HB9 := Hid.mk7 (HB.out.trans (b9.mono HB.out.size))
                  have HAM := Hid.mk7 (at_v (p := (i : Int)) (HM7.out.later HB9.out) (by omega) HQM.out)
                  clear b9 HQ2 HB HU8
                  go_wp2_with fail
                  refine HAM.out.mono ?_
                  rintro e w10 ⟨rfl, b10⟩
                  have HB10 := Hid.mk7 (HB9.out.trans (b10.mono HB9.out.size))
                  clear b10 HAM HB9 HQM HQ
                  go_wp2
                  go_roundw
                  case rel => exact ⟨i + 1, by omega, by go_num, HB10⟩
                  case measure => simp [intOf]; omega
              · obtain rfl : i = N := by omega
                have U8 := Hid.mk7 (U7.out.later HB.out)
                have G8 := Hid.mk7 (G7.out.trans (HB.out.mono G7.out.size))
                have HM8 := Hid.mk7 (HM7.out.later HB.out)
                clear HB U7 G7 HM7
                generalize hwr : wr = w8 at *
                clear hwr
                obtain ⟨ma, mcap, rfl, _, _, hmc⟩ := id HM8.out
                have HMC := Hid.mk7 hmc
                clear hmc
                go_wp2
                go_loopw [22, 23] (fun bv iv wr => ∃ k : Nat, k ≤ M.length ∧ iv = .int .i64 (k : Nat) ∧ bv = .bool (insB (M.take k) p) ∧ Hid (w8 = wr)) (fun _ iv _ => M.length - (intOf iv).toNat)
                case atStart => exact ⟨0, Nat.zero_le _, rfl, rfl, rfl⟩
                case round =>
                  obtain ⟨k, hk, rfl, rfl, HW⟩ := hrel
                  obtain rfl := HW.out
                  clear HW
                  by_cases hlk : k < M.length
                  · obtain ⟨⟨x, y, z⟩, hr⟩ : ∃ r, M[k]? = some r := ⟨M[k], List.getElem?_eq_getElem hlk⟩
                    obtain ⟨g, off, rfl, c0, c1, c2⟩ := HMC.out k _ hr
                    have HTK := Hid.mk7 (insB_take (p := (p : Int)) hr)
                    simp only at c0 c1 c2
                    clear hr
                    generalize insB (M.take k) (p : Int) = b at *
                    cases b with
                    | true =>
                      have HTT : Hid (insB (M.take (k + 1)) (p : Int) = true) := by show _ = _; rw [HTK.out, Bool.true_or]
                      clear HTK
                      go_wp2
                      go_roundw
                      case rel => exact ⟨k + 1, by omega, by go_num, congrArg Value.bool HTT.out.symm, by first | exact Hid.mk7 trivial | exact Hid.mk7 rfl⟩
                      case measure => simp [intOf]; omega
                    | false =>
                      by_cases hxp : x < (p : Int)
                      · have dx : decide (x < (p : Int)) = true := decide_eq_true hxp
                        by_cases hpy : (p : Int) < y
                        · have dy : decide ((p : Int) < y) = true := decide_eq_true hpy
                          have HTT : Hid (insB (M.take (k + 1)) (p : Int) = true) := by show _ = _; rw [HTK.out, dx, dy]; rfl
                          clear HTK
                          go_wp2
                          go_roundw
                          case rel => exact ⟨k + 1, by omega, by go_num, congrArg Value.bool HTT.out.symm, by first | exact Hid.mk7 trivial | exact Hid.mk7 rfl⟩
                          case measure => simp [intOf]; omega
                        · have dy : decide ((p : Int) < y) = false := decide_eq_false hpy
                          have HTT : Hid (insB (M.take (k + 1)) (p : Int) = false) := by show _ = _; rw [HTK.out, dx, dy]; rfl
                          clear HTK
                          go_wp2
                          go_roundw
                          case rel => exact ⟨k + 1, by omega, by go_num, congrArg Value.bool HTT.out.symm, by first | exact Hid.mk7 trivial | exact Hid.mk7 rfl⟩
                          case measure => simp [intOf]; omega
                      · have dx : decide (x < (p : Int)) = false := decide_eq_false hxp
                        have HTT : Hid (insB (M.take (k + 1)) (p : Int) = false) := by show _ = _; rw [HTK.out, dx]; rfl
                        clear HTK
                        go_wp2
                        go_roundw
                        case rel => exact ⟨k + 1, by omega, by go_num, congrArg Value.bool HTT.out.symm, by first | exact Hid.mk7 trivial | exact Hid.mk7 rfl⟩
                        case measure => simp [intOf]; omega
                  · obtain rfl : k = M.length := by omega
                    rw [List.take_length]
                    have HINS := Hid.mk7 (fun j hj => GN.out.ins j hj)
                    clear HMC
                    cases hb : insB M (p : Int) with
                    | true =>
                      have HIN : Hid (∀ j : Nat, j < s.size → atS U ((p : Int) + (j : Nat)) = atS M p) := fun j hj => by have := HINS.out j hj; rwa [if_pos hb] at this
                      clear hb HINS
                      go_wp2
                      go_loopw [24] (fun iv wr => ∃ j : Nat, j ≤ s.size ∧ iv = .int .i64 (j : Nat) ∧ Hid (Below w8.heap.size w8 wr)) (fun iv _ => s.size - (intOf iv).toNat)
                      case atStart => exact ⟨0, Nat.zero_le _, rfl, Below.refl _ _⟩
                      case round =>
                        obtain ⟨j, hj, rfl, HB⟩ := hrel
                        by_cases hlj : j < s.size
                        · have dj : decide (j < s.size) = true := decide_eq_true hlj
                          have HQ := Hid.mk7 (HIN.out j hlj)
                          obtain ⟨q, hq0⟩ : ∃ q, atS M (p : Int) = q := ⟨_, rfl⟩
                          rw [hq0] at HQ
                          have HAM := Hid.mk7 (at_v (p := (p : Int)) (HM8.out.later HB.out) (by omega) hq0)
                          have hq : (q != q) = false := by simp
                          clear hq0
                          go_wp2_with fail
                          refine HAM.out.mono ?_
                          rintro e w9 ⟨rfl, b9⟩
                          have HB9 := Hid.mk7 (HB.out.trans (b9.mono HB.out.size))
                          have HAU := Hid.mk7 (at_v (p := (p : Int) + (j : Nat)) (U8.out.later HB9.out) (by omega) HQ.out)
                          clear b9 HAM HB
                          go_wp2_with fail
                          refine HAU.out.mono ?_
                          rintro e w10 ⟨rfl, b10⟩
                          have HB10 := Hid.mk7 (HB9.out.trans (b10.mono HB9.out.size))
                          clear b10 HAU HB9 HQ
                          go_wp2
                          go_roundw
                          case rel => exact ⟨j + 1, by omega, by go_num, HB10⟩
                          case measure => simp [intOf]; omega
                        · obtain rfl : j = s.size := by omega
                          have GZ := Hid.mk7 (G8.out.trans (HB.out.mono G8.out.size))
                          clear HB
                          go_wp2
                          go_ret
                          exact ⟨rfl, GZ.out⟩
                    | false =>
                      have HIN : Hid (∀ j : Nat, j < s.size → atS U ((p : Int) + (j : Nat)) = 0) := fun j hj => by have := HINS.out j hj; rwa [if_neg (by rw [hb]; decide)] at this
                      clear hb HINS
                      go_wp2
                      go_loopw [24] (fun iv wr => ∃ j : Nat, j ≤ s.size ∧ iv = .int .i64 (j : Nat) ∧ Hid (Below w8.heap.size w8 wr)) (fun iv _ => s.size - (intOf iv).toNat)
                      case atStart => exact ⟨0, Nat.zero_le _, rfl, Below.refl _ _⟩
                      case round =>
                        obtain ⟨j, hj, rfl, HB⟩ := hrel
                        by_cases hlj : j < s.size
                        · have dj : decide (j < s.size) = true := decide_eq_true hlj
                          have HQ := Hid.mk7 (HIN.out j hlj)
                          have HAU := Hid.mk7 (at_v (p := (p : Int) + (j : Nat)) (U8.out.later HB.out) (by omega) HQ.out)
                          go_wp2_with fail
                          refine HAU.out.mono ?_
                          rintro e w10 ⟨rfl, b10⟩
                          have HB10 := Hid.mk7 (HB.out.trans (b10.mono HB.out.size))
                          clear b10 HAU HB HQ
                          go_wp2
                          go_roundw
                          case rel => exact ⟨j + 1, by omega, by go_num, HB10⟩
                          case measure => simp [intOf]; omega
                        · obtain rfl : j = s.size := by omega
                          have GZ := Hid.mk7 (G8.out.trans (HB.out.mono G8.out.size))
                          clear HB
                          go_wp2
                          go_ret
                          exact ⟨rfl, GZ.out⟩
end Go.Proofs.YtmgjfmgkmlfjeaaDoor
