/- palinodelaw14's OffsetOrder walked. -/
import Derived.Test.YtelpinngimohoaaDoorOffKnown
import Derived.Test.YtelpinngimohoaaDoorOffOrderM
import Derived.Test.YtelpinngimohoaaDoorOffPlain
namespace Go.Proofs.YtelpinngimohoaaDoor
open Go.RowKit Go.Sort Go.Lib
set_option linter.unusedSimpArgs false
set_option linter.unusedVariables false

theorem back_w {w : World} {v : Value} {es : List El} {base at' : Int} {tb : Nat × Nat} {z : Int} (hz : bkV base es at' = z) (hi : isB base es = true) (h : ElAt w v es) (hT : Tab w tb) :
    Calls Tryd.prog 14 #[.agg #[.int .i64 base, v], .int .i64 at'] w fun e w' => e = .returned (.int .i64 z) ∧ RowKit.Below w.heap.size w w' := by
  subst hz; exact back_any base at' h ((dl_of hi).sm.mono (by omega)) tb hT
theorem stays_w {w : World} {v : Value} {es : List El} {base at' : Int} {tb : Nat × Nat} {z : Bool} (hz : stB es at' = z) (hi : isB base es = true) (h : ElAt w v es) (hT : Tab w tb) :
    Calls Tryd.prog 16 #[.agg #[.int .i64 base, v], .int .i64 at'] w fun e w' => e = .returned (.bool z) ∧ RowKit.Below w.heap.size w w' := by
  have := stays_any base at' h ((dl_of hi).sm.mono (by omega)) tb hT
  rw [hi, Bool.true_and, hz] at this
  exact this
set_option maxHeartbeats 8000000 in
set_option maxRecDepth 100000 in
theorem order14_any (n : Int) {v : Value} {l : List El} (hn0 : 0 ≤ n) (hn1 : n ≤ 255) (hl : l.length ≤ maxLen) (hsm : Sm l maxLen) (w : World) (tb : Nat × Nat) (hT : Tab w tb) (h : ElAt w v l) :
    Calls Tryd.prog 4 #[.int .u8 n, v] w fun e w' => e = .returned (.bool true) ∧ RowKit.Below w.heap.size w w' := by
  obtain ⟨va, vcap, rfl, hvc, _, _⟩ := id h
  obtain ⟨N, rfl⟩ : ∃ N : Nat, n = N := ⟨n.toNat, by omega⟩
  have L0 := Hid.mk7 h
  have T0 := Hid.mk7 hT
  have G0 := Hid.mk7 (RowKit.Below.refl w.heap.size w)
  clear hT h
  by_cases hlong : 12 < l.length
  · have t1 : decide ((12 : Int) < (l.length : Int)) = true := decide_eq_true (by omega)
    go_enter Tryd.func4, Tryd.ntmps4
    go_wp2_with fail
    refine (known14_any _ tb T0.out).mono ?_
    rintro e w11 ⟨rfl, bz⟩
    have L12 := Hid.mk7 (L0.out.later bz)
    have T12 := Hid.mk7 (T0.out.later bz)
    have G12 := Hid.mk7 (G0.out.trans (bz.mono G0.out.size))
    clear L0 T0 G0 bz
    go_wp2
    go_ret
    exact ⟨rfl, G12.out⟩
  have t1 : decide ((12 : Int) < (l.length : Int)) = false := decide_eq_false (by omega)
  have hl12 : l.length ≤ 12 := by omega
  clear hlong
  go_enter Tryd.func4, Tryd.ntmps4
  go_wp2_with fail
  refine (known14_any _ tb T0.out).mono ?_
  rintro e w11 ⟨rfl, bz⟩
  have L12 := Hid.mk7 (L0.out.later bz)
  have T12 := Hid.mk7 (T0.out.later bz)
  have G12 := Hid.mk7 (G0.out.trans (bz.mono G0.out.size))
  clear L0 T0 G0 bz
  obtain ⟨_, _, e4, _, _, hcells⟩ := id L12.out
  cases e4
  have HC := Hid.mk7 hcells
  clear hcells
  go_wp2
  go_loopw [6] (fun iv wr => ∃ k : Nat, k ≤ l.length ∧ iv = .int .i64 (k : Nat) ∧ Hid (Sm (l.take k) 60) ∧ w11 = wr) (fun iv _ => l.length - (intOf iv).toNat)
  case atStart => exact ⟨0, Nat.zero_le _, rfl, (fun e he => by simp at he), rfl⟩
  case round =>
    obtain ⟨k, hk, rfl, HS, rfl⟩ := hrel
    by_cases hlt : k < l.length
    · obtain ⟨⟨f, t, T⟩, hr⟩ : ∃ r, l[k]? = some r := ⟨l[k], List.getElem?_eq_getElem hlt⟩
      obtain ⟨g, off, rfl, q0, q1, q2⟩ := HC.out k _ hr
      simp only at q2
      have hcs : (cacc T).size = T.length := cacc_size T
      have HR := Hid.mk7 hr
      clear hr q0 q1
      generalize cacc T = z at *
      by_cases hT40 : 60 < T.length
      · have d1 : decide ((60 : Int) < (T.length : Int)) = true := decide_eq_true (by omega)
        go_wp2
        go_ret
        exact ⟨rfl, G12.out⟩
      have d1 : decide ((60 : Int) < (T.length : Int)) = false := decide_eq_false (by omega)
      have HS2 : Hid (Sm (l.take (k + 1)) 60) := by
        intro e he
        rw [take_snoc7 HR.out] at he
        rcases List.mem_append.1 he with he | he
        · exact HS.out e he
        · simp only [List.mem_singleton] at he
          subst he
          simp only; omega
      clear HS
      go_wp2
      go_roundw
      case rel => exact ⟨k + 1, by omega, by go_num, HS2, trivial⟩
      case measure => simp [intOf]; omega
    · obtain rfl : k = l.length := by omega
      have hsm60 : Sm l 60 := by have := HS.out; rw [List.take_length] at this; exact this
      have HSM := Hid.mk7 (hsm60.mono (n := 100000) (by omega))
      have hin4 : inS l ≤ 720 := by
        have := inS_bd l 60 hsm60
        omega
      clear hsm60 HS
      by_cases hf : flt N l = 0
      case neg =>
        obtain ⟨r, hfr⟩ : ∃ r, flt N l = r := ⟨_, rfl⟩
        rw [hfr] at hf
        have HFR := Hid.mk7 hfr
        have d1 : (r != 0) = true := by simpa using hf
        have d2 : decide (r = 0) = false := decide_eq_false hf
        clear hfr
        go_wp2_with fail
        refine (build_bv HFR.out hf (HSM.out.mono (by omega)) (by omega) L12.out T12.out).mono ?_
        rintro e w13 ⟨rfl, bz⟩
        have L14 := Hid.mk7 (L12.out.later bz)
        have T14 := Hid.mk7 (T12.out.later bz)
        have G14 := Hid.mk7 (G12.out.trans (bz.mono G12.out.size))
        clear L12 T12 G12 bz
        have bz : RowKit.Below w13.heap.size w13 (w13.alloc (.cells #[.int .i64 0, .slice none 0 0] 24)) := below_newE (RowKit.Below.refl _ _) _
        have nw15 := Hid.mk7 (@Rd.new w13 (.int .i64 0) (.slice none 0 0))
        have L16 := Hid.mk7 (L14.out.later bz)
        have T16 := Hid.mk7 (T14.out.later bz)
        have G16 := Hid.mk7 (G14.out.trans (bz.mono G14.out.size))
        clear L14 T14 G14 bz
        go_wp2
        go_ret
        exact ⟨rfl, G16.out⟩
      by_cases hm : (elG N [] 0 l).length ≤ 60
      case neg =>
        have HFR := Hid.mk7 hf
        clear hf
        go_wp2_with fail
        refine (build_many N L12.out (HSM.out.mono (by omega)) (by omega) (by omega) tb T12.out HFR.out (by omega)).mono ?_
        rintro e w13 ⟨rfl, bz⟩
        have L14 := Hid.mk7 (L12.out.later bz)
        have T14 := Hid.mk7 (T12.out.later bz)
        have G14 := Hid.mk7 (G12.out.trans (bz.mono G12.out.size))
        clear L12 T12 G12 bz
        have bz : RowKit.Below w13.heap.size w13 (w13.alloc (.cells #[.int .i64 0, .slice none 0 0] 24)) := below_newE (RowKit.Below.refl _ _) _
        have nw15 := Hid.mk7 (@Rd.new w13 (.int .i64 0) (.slice none 0 0))
        have L16 := Hid.mk7 (L14.out.later bz)
        have T16 := Hid.mk7 (T14.out.later bz)
        have G16 := Hid.mk7 (G14.out.trans (bz.mono G14.out.size))
        clear L14 T14 G14 bz
        go_wp2
        go_ret
        exact ⟨rfl, G16.out⟩
      have hi := (built14 hf hm).1
      have HFR := Hid.mk7 hf
      obtain ⟨E, hE⟩ : ∃ E, elG N [] 0 l = E := ⟨_, rfl⟩
      have HE := Hid.mk7 hE
      rw [hE] at hm hi
      obtain ⟨M, hM⟩ : ∃ M : Nat, (cel E).length = M := ⟨_, rfl⟩
      have hM2 := (cel_len14 hi).2
      rw [hM] at hM2
      have HM := Hid.mk7 hM
      have HOD := Hid.mk7 (fun k (hk : k ≤ N) => od_of hi hM hk)
      have HEN := Hid.mk7 (od_ends hi hM)
      have HI := Hid.mk7 hi
      clear hf hE hM hi
      go_wp2_with fail
      refine (build_v HFR.out HE.out hm (HSM.out.mono (by omega)) (by omega) (by omega) L12.out T12.out).mono ?_
      rintro e w13 ⟨v1, rfl, h1, bz⟩
      obtain ⟨a1, c1, rfl, _, _, _⟩ := id h1
      have L14 := Hid.mk7 (L12.out.later bz)
      have T14 := Hid.mk7 (T12.out.later bz)
      have G14 := Hid.mk7 (G12.out.trans (bz.mono G12.out.size))
      clear L12 T12 G12 bz
      have E15 := Hid.mk7 (h1)
      clear h1
      clear L14
      have bz : RowKit.Below w13.heap.size w13 (w13.alloc (.cells #[.int .i64 (N : Nat), .slice a1 E.length c1] 24)) := below_newE (RowKit.Below.refl _ _) _
      have nw16 := Hid.mk7 (@Rd.new w13 (.int .i64 (N : Nat)) (.slice a1 E.length c1))
      have T17 := Hid.mk7 (T14.out.later bz)
      have G17 := Hid.mk7 (G14.out.trans (bz.mono G14.out.size))
      have E17 := Hid.mk7 (E15.out.later bz)
      clear T14 G14 E15 bz
      have REc0 := nw16.out.c0
      have REc1 := nw16.out.c1
      go_wp2_with fail
      refine (size_len14 HI.out HM.out E17.out T17.out).mono ?_
      rintro e w18 ⟨rfl, bz⟩
      clear REc0 REc1
      have T19 := Hid.mk7 (T17.out.later bz)
      have G19 := Hid.mk7 (G17.out.trans (bz.mono G17.out.size))
      have E19 := Hid.mk7 (E17.out.later bz)
      have RE19 := Hid.mk7 (nw16.out.later bz)
      clear T17 G17 E17 nw16 bz
      have REc0 := RE19.out.c0
      have REc1 := RE19.out.c1
      clear HC HSM HFR
      go_wp2
      go_loopw [10] (fun iv wr => ∃ k : Nat, k ≤ N + 1 ∧ iv = .int .i64 (k : Nat) ∧ Hid (RowKit.Below w18.heap.size w18 wr)) (fun iv _ => N + 1 - (intOf iv).toNat)
      case atStart => exact ⟨0, Nat.zero_le _, rfl, RowKit.Below.refl _ _⟩
      case round =>
        obtain ⟨k, hk, rfl, HB⟩ := hrel
        clear REc0 REc1
        have T20 := Hid.mk7 (T19.out.later HB.out)
        have G21 := Hid.mk7 (G19.out.trans (HB.out.mono G19.out.size))
        have E22 := Hid.mk7 (E19.out.later HB.out)
        have RE23 := Hid.mk7 (RE19.out.later HB.out)
        have REc0 := RE23.out.c0
        have REc1 := RE23.out.c1
        by_cases hkn : k ≤ N
        · skip
          have dk : decide ((k : Int) ≤ (N : Int)) = true := decide_eq_true (by omega)
          have dk2 : decide (k ≤ N) = true := decide_eq_true hkn
          obtain ⟨o1, o2, o3, o4, o5, o6⟩ := HOD.out k hkn
          obtain ⟨a, ha⟩ : ∃ a, mvV N E k false = a := ⟨_, rfl⟩
          obtain ⟨b, hb⟩ : ∃ b, mvV N E k true = b := ⟨_, rfl⟩
          rw [ha] at o1 o2 o4
          rw [hb] at o2 o3 o5 o6
          have HA := Hid.mk7 ha
          have HBB := Hid.mk7 hb
          have O4 := Hid.mk7 o4
          have O5 := Hid.mk7 o5
          have O6 := Hid.mk7 o6
          have d1 : decide (a < 0) = false := decide_eq_false (by omega)
          have d2 : decide (b < a) = false := decide_eq_false (by omega)
          have d3 : decide ((M : Int) < b) = false := decide_eq_false (by omega)
          clear ha hb o4 o5 o6
          clear REc0 REc1
          have REc0 := RE23.out.c0
          have REc1 := RE23.out.c1
          go_upto_region 18 with fail
          clear REc0 REc1
          have HMF := Hid.mk7 (fun d os => Calls.regrown_of (move_w HA.out HI.out (E22.out.later (below_regrown wr d os)) (T20.out.later (below_regrown wr d os))))
          have HMT := Hid.mk7 (fun d os => Calls.regrown_of (move_w HBB.out HI.out (E22.out.later (below_regrown wr d os)) (T20.out.later (below_regrown wr d os))))
          have q0 := cell_regrown RE23.out.c0
          have q1 := cell_regrown RE23.out.c1
          refine wp_region_quiet_below (by kernel_rfl) (by kernel_rfl) ?_
          repeat (go_big_quiet_step (first | (go_at_call_of 12 (Value.bool true); exact HMT.out _ _) | (go_at_call 12; exact HMF.out _ _)))
          refine wpQuiet_nil ?_
          intro _ hw'
          obtain ⟨⟨dq, osq⟩, hw''⟩ := hw'
          subst hw''
          have bz := below_regrown wr dq osq
          have HBZ := Hid.mk7 (HB.out.trans (bz.mono HB.out.size))
          clear q0 q1 HMF HMT
          have T24 := Hid.mk7 (T20.out.later bz)
          have G25 := Hid.mk7 (G21.out.trans (bz.mono G21.out.size))
          have E26 := Hid.mk7 (E22.out.later bz)
          have RE27 := Hid.mk7 (RE23.out.later bz)
          clear T20 G21 E22 RE23 bz HB
          generalize grow (redrawn wr dq) osq = w9 at *
          have REc0 := RE27.out.c0
          have REc1 := RE27.out.c1
          by_cases hk0 : 0 < k
          · skip
            have g1 : decide ((0 : Int) < (k : Int)) = true := decide_eq_true (by omega)
            have g2 : decide (0 < k) = true := decide_eq_true hk0
            have o4 := O4.out hk0
            have o5 := O5.out hk0
            obtain ⟨a', ha'⟩ : ∃ a', mvV N E ((k : Int) - 1) false = a' := ⟨_, rfl⟩
            obtain ⟨b', hb'⟩ : ∃ b', mvV N E ((k : Int) - 1) true = b' := ⟨_, rfl⟩
            rw [ha'] at o4
            rw [hb'] at o5
            have HA2 := Hid.mk7 ha'
            have HB2 := Hid.mk7 hb'
            have g3 : decide (a < a') = false := decide_eq_false (by omega)
            have g4 : decide (b < b') = false := decide_eq_false (by omega)
            clear ha' hb' 
            clear REc0 REc1
            have REc0 := RE27.out.c0
            have REc1 := RE27.out.c1
            go_wp2_with fail
            refine (move_w HA2.out HI.out E26.out T24.out).mono ?_
            rintro e w28 ⟨rfl, bz⟩
            clear REc0 REc1
            have T29 := Hid.mk7 (T24.out.later bz)
            have G29 := Hid.mk7 (G25.out.trans (bz.mono G25.out.size))
            have E29 := Hid.mk7 (E26.out.later bz)
            have RE29 := Hid.mk7 (RE27.out.later bz)
            have HB29 := Hid.mk7 (HBZ.out.trans (bz.mono HBZ.out.size))
            clear T24 G25 E26 RE27 HBZ bz
            have REc0 := RE29.out.c0
            have REc1 := RE29.out.c1
            go_wp2_with fail
            refine (move_w HB2.out HI.out E29.out T29.out).mono ?_
            rintro e w30 ⟨rfl, bz⟩
            clear REc0 REc1
            have T31 := Hid.mk7 (T29.out.later bz)
            have G31 := Hid.mk7 (G29.out.trans (bz.mono G29.out.size))
            have E31 := Hid.mk7 (E29.out.later bz)
            have RE31 := Hid.mk7 (RE29.out.later bz)
            have HB31 := Hid.mk7 (HB29.out.trans (bz.mono HB29.out.size))
            clear T29 G29 E29 RE29 HB29 bz
            have REc0 := RE31.out.c0
            have REc1 := RE31.out.c1
            by_cases hkl : k < N
            · skip
              have f1 : decide ((k : Int) < (N : Int)) = true := decide_eq_true (by omega)
              have f2 : decide (k < N) = true := decide_eq_true hkl
              have HKL := Hid.mk7 hkl
              by_cases hst : stB E k = true
              · skip
                have S1 := Hid.mk7 (O6.out HKL.out hst).1
                have S2 := Hid.mk7 (O6.out HKL.out hst).2
                clear REc0 REc1
                have REc0 := RE31.out.c0
                have REc1 := RE31.out.c1
                go_wp2_with fail
                refine (stays_w hst HI.out E31.out T31.out).mono ?_
                rintro e w32 ⟨rfl, bz⟩
                clear REc0 REc1
                have T33 := Hid.mk7 (T31.out.later bz)
                have G33 := Hid.mk7 (G31.out.trans (bz.mono G31.out.size))
                have E33 := Hid.mk7 (E31.out.later bz)
                have RE33 := Hid.mk7 (RE31.out.later bz)
                have HB33 := Hid.mk7 (HB31.out.trans (bz.mono HB31.out.size))
                clear T31 G31 E31 RE31 HB31 bz
                have REc0 := RE33.out.c0
                have REc1 := RE33.out.c1
                go_wp2_with fail
                refine (back_w S1.out HI.out E33.out T33.out).mono ?_
                rintro e w34 ⟨rfl, bz⟩
                clear REc0 REc1
                have T35 := Hid.mk7 (T33.out.later bz)
                have G35 := Hid.mk7 (G33.out.trans (bz.mono G33.out.size))
                have E35 := Hid.mk7 (E33.out.later bz)
                have RE35 := Hid.mk7 (RE33.out.later bz)
                have HB35 := Hid.mk7 (HB33.out.trans (bz.mono HB33.out.size))
                clear T33 G33 E33 RE33 HB33 bz
                have f3 : ((k : Int) != (k : Int)) = false := by simp
                have f4 : (b + 1 != b + 1) = false := by simp
                have REc0 := RE35.out.c0
                have REc1 := RE35.out.c1
                go_wp2_with fail
                refine (move_w S2.out HI.out E35.out T35.out).mono ?_
                rintro e w36 ⟨rfl, bz⟩
                clear REc0 REc1
                have T37 := Hid.mk7 (T35.out.later bz)
                have G37 := Hid.mk7 (G35.out.trans (bz.mono G35.out.size))
                have E37 := Hid.mk7 (E35.out.later bz)
                have RE37 := Hid.mk7 (RE35.out.later bz)
                have HB37 := Hid.mk7 (HB35.out.trans (bz.mono HB35.out.size))
                clear T35 G35 E35 RE35 HB35 bz
                have HBL := HB37
                go_wp2
                go_roundw
                case rel => exact ⟨k + 1, by omega, by go_num, HBL⟩
                case measure => simp [intOf]; omega
              · skip
                have hst2 : stB E k = false := by simpa using hst
                clear REc0 REc1
                have REc0 := RE31.out.c0
                have REc1 := RE31.out.c1
                go_wp2_with fail
                refine (stays_w hst2 HI.out E31.out T31.out).mono ?_
                rintro e w32 ⟨rfl, bz⟩
                clear REc0 REc1
                have T33 := Hid.mk7 (T31.out.later bz)
                have G33 := Hid.mk7 (G31.out.trans (bz.mono G31.out.size))
                have E33 := Hid.mk7 (E31.out.later bz)
                have RE33 := Hid.mk7 (RE31.out.later bz)
                have HB33 := Hid.mk7 (HB31.out.trans (bz.mono HB31.out.size))
                clear T31 G31 E31 RE31 HB31 bz
                have HBL := HB33
                go_wp2
                go_roundw
                case rel => exact ⟨k + 1, by omega, by go_num, HBL⟩
                case measure => simp [intOf]; omega
            · skip
              have f1 : decide ((k : Int) < (N : Int)) = false := decide_eq_false (by omega)
              have f2 : decide (k < N) = false := decide_eq_false hkl
              clear REc0 REc1
              have HBL := HB31
              go_wp2
              go_roundw
              case rel => exact ⟨k + 1, by omega, by go_num, HBL⟩
              case measure => simp [intOf]; omega
          · skip
            have g1 : decide ((0 : Int) < (k : Int)) = false := decide_eq_false (by omega)
            have g2 : decide (0 < k) = false := decide_eq_false hk0
            clear REc0 REc1
            have REc0 := RE27.out.c0
            have REc1 := RE27.out.c1
            by_cases hkl : k < N
            · skip
              have f1 : decide ((k : Int) < (N : Int)) = true := decide_eq_true (by omega)
              have f2 : decide (k < N) = true := decide_eq_true hkl
              have HKL := Hid.mk7 hkl
              by_cases hst : stB E k = true
              · skip
                have S1 := Hid.mk7 (O6.out HKL.out hst).1
                have S2 := Hid.mk7 (O6.out HKL.out hst).2
                clear REc0 REc1
                have REc0 := RE27.out.c0
                have REc1 := RE27.out.c1
                go_wp2_with fail
                refine (stays_w hst HI.out E26.out T24.out).mono ?_
                rintro e w28 ⟨rfl, bz⟩
                clear REc0 REc1
                have T29 := Hid.mk7 (T24.out.later bz)
                have G29 := Hid.mk7 (G25.out.trans (bz.mono G25.out.size))
                have E29 := Hid.mk7 (E26.out.later bz)
                have RE29 := Hid.mk7 (RE27.out.later bz)
                have HB29 := Hid.mk7 (HBZ.out.trans (bz.mono HBZ.out.size))
                clear T24 G25 E26 RE27 HBZ bz
                have REc0 := RE29.out.c0
                have REc1 := RE29.out.c1
                go_wp2_with fail
                refine (back_w S1.out HI.out E29.out T29.out).mono ?_
                rintro e w30 ⟨rfl, bz⟩
                clear REc0 REc1
                have T31 := Hid.mk7 (T29.out.later bz)
                have G31 := Hid.mk7 (G29.out.trans (bz.mono G29.out.size))
                have E31 := Hid.mk7 (E29.out.later bz)
                have RE31 := Hid.mk7 (RE29.out.later bz)
                have HB31 := Hid.mk7 (HB29.out.trans (bz.mono HB29.out.size))
                clear T29 G29 E29 RE29 HB29 bz
                have f3 : ((k : Int) != (k : Int)) = false := by simp
                have f4 : (b + 1 != b + 1) = false := by simp
                have REc0 := RE31.out.c0
                have REc1 := RE31.out.c1
                go_wp2_with fail
                refine (move_w S2.out HI.out E31.out T31.out).mono ?_
                rintro e w32 ⟨rfl, bz⟩
                clear REc0 REc1
                have T33 := Hid.mk7 (T31.out.later bz)
                have G33 := Hid.mk7 (G31.out.trans (bz.mono G31.out.size))
                have E33 := Hid.mk7 (E31.out.later bz)
                have RE33 := Hid.mk7 (RE31.out.later bz)
                have HB33 := Hid.mk7 (HB31.out.trans (bz.mono HB31.out.size))
                clear T31 G31 E31 RE31 HB31 bz
                have HBL := HB33
                go_wp2
                go_roundw
                case rel => exact ⟨k + 1, by omega, by go_num, HBL⟩
                case measure => simp [intOf]; omega
              · skip
                have hst2 : stB E k = false := by simpa using hst
                clear REc0 REc1
                have REc0 := RE27.out.c0
                have REc1 := RE27.out.c1
                go_wp2_with fail
                refine (stays_w hst2 HI.out E26.out T24.out).mono ?_
                rintro e w28 ⟨rfl, bz⟩
                clear REc0 REc1
                have T29 := Hid.mk7 (T24.out.later bz)
                have G29 := Hid.mk7 (G25.out.trans (bz.mono G25.out.size))
                have E29 := Hid.mk7 (E26.out.later bz)
                have RE29 := Hid.mk7 (RE27.out.later bz)
                have HB29 := Hid.mk7 (HBZ.out.trans (bz.mono HBZ.out.size))
                clear T24 G25 E26 RE27 HBZ bz
                have HBL := HB29
                go_wp2
                go_roundw
                case rel => exact ⟨k + 1, by omega, by go_num, HBL⟩
                case measure => simp [intOf]; omega
            · skip
              have f1 : decide ((k : Int) < (N : Int)) = false := decide_eq_false (by omega)
              have f2 : decide (k < N) = false := decide_eq_false hkl
              clear REc0 REc1
              have HBL := HBZ
              go_wp2
              go_roundw
              case rel => exact ⟨k + 1, by omega, by go_num, HBL⟩
              case measure => simp [intOf]; omega
        · skip
          have dk : decide ((k : Int) ≤ (N : Int)) = false := decide_eq_false (by omega)
          have dk2 : decide (k ≤ N) = false := decide_eq_false hkn
          have R1 := Hid.mk7 HEN.out.1
          have R2 := Hid.mk7 HEN.out.2.1
          have R3 := Hid.mk7 HEN.out.2.2
          have f5 : ((M : Int) == (M : Int)) = true := by simp
          have f6 : ((N : Int) == (N : Int)) = true := by simp
          clear REc0 REc1
          have REc0 := RE23.out.c0
          have REc1 := RE23.out.c1
          go_wp2_with fail
          refine (move_w R1.out HI.out E22.out T20.out).mono ?_
          rintro e w24 ⟨rfl, bz⟩
          clear REc0 REc1
          have T25 := Hid.mk7 (T20.out.later bz)
          have G25 := Hid.mk7 (G21.out.trans (bz.mono G21.out.size))
          have E25 := Hid.mk7 (E22.out.later bz)
          have RE25 := Hid.mk7 (RE23.out.later bz)
          clear T20 G21 E22 RE23 bz
          have REc0 := RE25.out.c0
          have REc1 := RE25.out.c1
          go_wp2_with fail
          refine (move_w R2.out HI.out E25.out T25.out).mono ?_
          rintro e w26 ⟨rfl, bz⟩
          clear REc0 REc1
          have T27 := Hid.mk7 (T25.out.later bz)
          have G27 := Hid.mk7 (G25.out.trans (bz.mono G25.out.size))
          have E27 := Hid.mk7 (E25.out.later bz)
          have RE27 := Hid.mk7 (RE25.out.later bz)
          clear T25 G25 E25 RE25 bz
          have REc0 := RE27.out.c0
          have REc1 := RE27.out.c1
          go_wp2_with fail
          refine (back_w R3.out HI.out E27.out T27.out).mono ?_
          rintro e w28 ⟨rfl, bz⟩
          clear REc0 REc1
          have T29 := Hid.mk7 (T27.out.later bz)
          have G29 := Hid.mk7 (G27.out.trans (bz.mono G27.out.size))
          have E29 := Hid.mk7 (E27.out.later bz)
          have RE29 := Hid.mk7 (RE27.out.later bz)
          clear T27 G27 E27 RE27 bz
          go_wp2
          go_ret
          exact ⟨rfl, G29.out⟩
end Go.Proofs.YtelpinngimohoaaDoor
