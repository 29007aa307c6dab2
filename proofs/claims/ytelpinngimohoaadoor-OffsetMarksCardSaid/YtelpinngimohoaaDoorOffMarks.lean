/- palinodelaw14's OffsetMarks walked. -/
import Derived.Test.YtelpinngimohoaaDoorOffKnown
import Derived.Test.YtelpinngimohoaaDoorOffMarksM
import Derived.Test.YtelpinngimohoaaDoorOffPlain
namespace Go.Proofs.YtelpinngimohoaaDoor
open Go.RowKit Go.Sort Go.Lib
set_option linter.unusedSimpArgs false
set_option linter.unusedVariables false

theorem interval_w {w : World} {v : Value} {es : List El} {base : Int} {tb : Nat × Nat} {f t x y : Int} (hx : mvV base es f true = x) (hy : max (mvV base es f true) (mvV base es t false) = y) (hi : isB base es = true) (h : ElAt w v es) (hT : Tab w tb) :
    Calls Tryd.prog 17 #[.agg #[.int .i64 base, v], .agg #[.int .i64 f, .int .i64 t]] w fun e w' => e = .returned (.agg #[.int .i64 x, .int .i64 y]) ∧ RowKit.Below w.heap.size w w' := by
  subst hx hy; exact interval_any base f t h ((dl_of hi).sm.mono (by omega)) tb hT
set_option maxHeartbeats 8000000 in
set_option maxRecDepth 100000 in
theorem marks14_any (s : ByteArray) (from' to' : Int) {v : Value} {l : List El} (hs : s.size ≤ maxLen) (hf0 : 0 ≤ from' ∧ from' ≤ 255) (ht0 : 0 ≤ to' ∧ to' ≤ 255) (hl : l.length ≤ maxLen) (hsm : Sm l maxLen) (w : World) (tb : Nat × Nat) (hT : Tab w tb) (h : ElAt w v l) :
    Calls Tryd.prog 5 #[.string s, v, .int .u8 from', .int .u8 to'] w fun e w' => e = .returned (.bool true) ∧ RowKit.Below w.heap.size w w' := by
  obtain ⟨va, vcap, rfl, hvc, _, _⟩ := id h
  have L0 := Hid.mk7 h
  have T0 := Hid.mk7 hT
  have G0 := Hid.mk7 (RowKit.Below.refl w.heap.size w)
  clear hT h
  by_cases hls : 150 < s.size
  · have t1 : decide ((150 : Int) < (s.size : Int)) = true := decide_eq_true (by omega)
    go_enter Tryd.func5, Tryd.ntmps5
    go_wp2_with fail
    refine (known14_any _ tb T0.out).mono ?_
    rintro e w11 ⟨rfl, bz⟩
    have L12 := Hid.mk7 (L0.out.later bz)
    have T12 := Hid.mk7 (T0.out.later bz)
    have G12 := Hid.mk7 (G0.out.trans (bz.mono G0.out.size))
    clear L0 T0 G0 bz
    go_wp2
    go_ret
    exact ⟨rfl, G12.out⟩
  have t1 : decide ((150 : Int) < (s.size : Int)) = false := decide_eq_false (by omega)
  have hs150 : s.size ≤ 150 := by omega
  clear hls
  by_cases hlong : 8 < l.length
  · have t2 : decide ((8 : Int) < (l.length : Int)) = true := decide_eq_true (by omega)
    go_enter Tryd.func5, Tryd.ntmps5
    go_wp2_with fail
    refine (known14_any _ tb T0.out).mono ?_
    rintro e w11 ⟨rfl, bz⟩
    have L12 := Hid.mk7 (L0.out.later bz)
    have T12 := Hid.mk7 (T0.out.later bz)
    have G12 := Hid.mk7 (G0.out.trans (bz.mono G0.out.size))
    clear L0 T0 G0 bz
    go_wp2
    go_ret
    exact ⟨rfl, G12.out⟩
  have t2 : decide ((8 : Int) < (l.length : Int)) = false := decide_eq_false (by omega)
  have hl8 : l.length ≤ 8 := by omega
  clear hlong
  go_enter Tryd.func5, Tryd.ntmps5
  go_wp2_with fail
  refine (known14_any _ tb T0.out).mono ?_
  rintro e w11 ⟨rfl, bz⟩
  have L12 := Hid.mk7 (L0.out.later bz)
  have T12 := Hid.mk7 (T0.out.later bz)
  have G12 := Hid.mk7 (G0.out.trans (bz.mono G0.out.size))
  clear L0 T0 G0 bz
  obtain ⟨_, _, e4, _, _, hcells⟩ := id L12.out
  cases e4
  have HC := Hid.mk7 hcells
  clear hcells
  go_wp2
  go_loopw [9] (fun iv wr => ∃ k : Nat, k ≤ l.length ∧ iv = .int .i64 (k : Nat) ∧ Hid (Sm (l.take k) 40) ∧ w11 = wr) (fun iv _ => l.length - (intOf iv).toNat)
  case atStart => exact ⟨0, Nat.zero_le _, rfl, (fun e he => by simp at he), rfl⟩
  case round =>
    obtain ⟨k, hk, rfl, HS, rfl⟩ := hrel
    by_cases hlt : k < l.length
    · obtain ⟨⟨f, t, T⟩, hr⟩ : ∃ r, l[k]? = some r := ⟨l[k], List.getElem?_eq_getElem hlt⟩
      obtain ⟨g, off, rfl, q0, q1, q2⟩ := HC.out k _ hr
      simp only at q2
      have hcs : (cacc T).size = T.length := cacc_size T
      have HR := Hid.mk7 hr
      clear hr q0 q1
      generalize cacc T = z at *
      by_cases hT40 : 40 < T.length
      · have d1 : decide ((40 : Int) < (T.length : Int)) = true := decide_eq_true (by omega)
        go_wp2
        go_ret
        exact ⟨rfl, G12.out⟩
      have d1 : decide ((40 : Int) < (T.length : Int)) = false := decide_eq_false (by omega)
      have HS2 : Hid (Sm (l.take (k + 1)) 40) := by
        intro e he
        rw [take_snoc7 HR.out] at he
        rcases List.mem_append.1 he with he | he
        · exact HS.out e he
        · simp only [List.mem_singleton] at he
          subst he
          simp only; omega
      clear HS
      go_wp2
      go_roundw
      case rel => exact ⟨k + 1, by omega, by go_num, HS2, trivial⟩
      case measure => simp [intOf]; omega
    · obtain rfl : k = l.length := by omega
      have hsm40 : Sm l 40 := by have := HS.out; rw [List.take_length] at this; exact this
      have HSM := Hid.mk7 (hsm40.mono (n := 100000) (by omega))
      have hin4 : inS l ≤ 320 := by
        have := inS_bd l 40 hsm40
        omega
      clear hsm40 HS
      by_cases hf : flt (s.size : Nat) l = 0
      case neg =>
        obtain ⟨r, hfr⟩ : ∃ r, flt (s.size : Nat) l = r := ⟨_, rfl⟩
        rw [hfr] at hf
        have HFR := Hid.mk7 hfr
        have d1 : (r != 0) = true := by simpa using hf
        have d2 : decide (r = 0) = false := decide_eq_false hf
        clear hfr
        go_wp2_with fail
        refine (build_bv HFR.out hf (HSM.out.mono (by omega)) (by omega) L12.out T12.out).mono ?_
        rintro e w13 ⟨rfl, bz⟩
        have L14 := Hid.mk7 (L12.out.later bz)
        have T14 := Hid.mk7 (T12.out.later bz)
        have G14 := Hid.mk7 (G12.out.trans (bz.mono G12.out.size))
        clear L12 T12 G12 bz
        have bz : RowKit.Below w13.heap.size w13 (w13.alloc (.cells #[.int .i64 0, .slice none 0 0] 24)) := below_newE (RowKit.Below.refl _ _) _
        have nw15 := Hid.mk7 (@Rd.new w13 (.int .i64 0) (.slice none 0 0))
        have L16 := Hid.mk7 (L14.out.later bz)
        have T16 := Hid.mk7 (T14.out.later bz)
        have G16 := Hid.mk7 (G14.out.trans (bz.mono G14.out.size))
        clear L14 T14 G14 bz
        go_wp2
        go_ret
        exact ⟨rfl, G16.out⟩
      by_cases hm : (elG (s.size : Nat) [] 0 l).length ≤ 60
      case neg =>
        have HFR := Hid.mk7 hf
        clear hf
        go_wp2_with fail
        refine (build_many (s.size : Nat) L12.out (HSM.out.mono (by omega)) (by omega) (by omega) tb T12.out HFR.out (by omega)).mono ?_
        rintro e w13 ⟨rfl, bz⟩
        have L14 := Hid.mk7 (L12.out.later bz)
        have T14 := Hid.mk7 (T12.out.later bz)
        have G14 := Hid.mk7 (G12.out.trans (bz.mono G12.out.size))
        clear L12 T12 G12 bz
        have bz : RowKit.Below w13.heap.size w13 (w13.alloc (.cells #[.int .i64 0, .slice none 0 0] 24)) := below_newE (RowKit.Below.refl _ _) _
        have nw15 := Hid.mk7 (@Rd.new w13 (.int .i64 0) (.slice none 0 0))
        have L16 := Hid.mk7 (L14.out.later bz)
        have T16 := Hid.mk7 (T14.out.later bz)
        have G16 := Hid.mk7 (G14.out.trans (bz.mono G14.out.size))
        clear L14 T14 G14 bz
        go_wp2
        go_ret
        exact ⟨rfl, G16.out⟩
      have hi := (built14 hf hm).1
      have HFR := Hid.mk7 hf
      obtain ⟨E, hE⟩ : ∃ E, elG (s.size : Nat) [] 0 l = E := ⟨_, rfl⟩
      have HE := Hid.mk7 hE
      rw [hE] at hm hi
      have HI := Hid.mk7 hi
      have HMK := Hid.mk7 (fun (a b : Nat) (hab : a < b) (hb : b ≤ s.size) => mk_of hf hE hm rfl hab hb)
      clear hf hE hi
      go_wp2_with fail
      refine (build_v HFR.out HE.out hm (HSM.out.mono (by omega)) (by omega) (by omega) L12.out T12.out).mono ?_
      rintro e w13 ⟨v1, rfl, h1, bz⟩
      obtain ⟨a1, c1, rfl, _, _, _⟩ := id h1
      have L14 := Hid.mk7 (L12.out.later bz)
      have T14 := Hid.mk7 (T12.out.later bz)
      have G14 := Hid.mk7 (G12.out.trans (bz.mono G12.out.size))
      clear L12 T12 G12 bz
      have E15 := Hid.mk7 (h1)
      clear h1
      have bz : RowKit.Below w13.heap.size w13 (w13.alloc (.cells #[.int .i64 (s.size : Nat), .slice a1 E.length c1] 24)) := below_newE (RowKit.Below.refl _ _) _
      have nw16 := Hid.mk7 (@Rd.new w13 (.int .i64 (s.size : Nat)) (.slice a1 E.length c1))
      have L17 := Hid.mk7 (L14.out.later bz)
      have T17 := Hid.mk7 (T14.out.later bz)
      have G17 := Hid.mk7 (G14.out.trans (bz.mono G14.out.size))
      have E17 := Hid.mk7 (E15.out.later bz)
      clear L14 T14 G14 E15 bz
      clear HC HSM HFR
      by_cases hs0 : s.size = 0
      case pos =>
        have d1 : ((s.size : Int) == 0) = true := by simp [hs0]
        have d2 : (s.size == 0) = true := by simp [hs0]
        have HS0 := Hid.mk7 hs0
        clear hs0
        have REc0 := nw16.out.c0
        have REc1 := nw16.out.c1
        go_wp2
        go_ret
        exact ⟨rfl, G17.out⟩
      have d1 : ((s.size : Int) == 0) = false := by simpa using hs0
      have d2 : (s.size == 0) = false := by simpa using hs0
      obtain ⟨a0, ha0⟩ : ∃ a : Nat, from' % (s.size : Int) = (a : Int) := ⟨(from' % (s.size : Int)).toNat, by have := Int.emod_nonneg from' (show (s.size : Int) ≠ 0 by omega); omega⟩
      have ha1 : a0 < s.size := by have := Int.emod_lt_of_pos from' (show (0 : Int) < (s.size : Int) by omega); omega
      have hz1 : ¬ (s.size : Int) = 0 := by omega
      have REc0 := nw16.out.c0
      have REc1 := nw16.out.c1
      go_upto_region 13 with fail
      clear REc0 REc1
      generalize w13.alloc (.cells #[.int .i64 (s.size : Nat), .slice a1 E.length c1] 24) = w20 at *
      go_cut [12] from 56 to 61 (fun s9 wx => ∃ a : Nat, s9 = .int .i64 (a : Nat) ∧ a < s.size ∧ wx = w20)
      case first =>
        go_wp2
        go_meet
        exact ⟨a0, by simp [ha0], by omega, rfl⟩
      obtain ⟨a, rfl, ha, rfl⟩ := hcut
      clear ha0 ha1 hz1
      obtain ⟨b0, hb0⟩ : ∃ b : Nat, to' % ((s.size : Int) - (a : Int)) = (b : Int) := ⟨(to' % ((s.size : Int) - (a : Int))).toNat, by have := Int.emod_nonneg to' (show (s.size : Int) - (a : Int) ≠ 0 by omega); omega⟩
      have hb1 : b0 + a < s.size := by have := Int.emod_lt_of_pos to' (show (0 : Int) < (s.size : Int) - (a : Int) by omega); omega
      have hz2 : ¬ (s.size : Int) - (a : Int) = 0 := by omega
      have hz3 : ((s.size : Int) - (a : Int) == 0) = false := by simpa using hz2
      go_upto_region 14 with fail
      go_cut [13] from 61 to 71 (fun s9 wx => ∃ b : Nat, s9 = .int .i64 (b : Nat) ∧ a < b ∧ b ≤ s.size ∧ wx = wc)
      case first =>
        go_wp2
        go_meet
        exact ⟨a + 1 + b0, by simp [hb0], by omega, by omega, rfl⟩
      obtain ⟨b, rfl, hab, hbs, rfl⟩ := hcut
      clear hb0 hb1 hz2 hz3
      generalize hw2 : wc = w21 at *
      clear hw2
      obtain ⟨X, Y, M, t, z, hmk⟩ := HMK.out a b hab hbs
      have MK := Hid.mk7 hmk
      have hxy := hmk.xy
      have hym := hmk.ym
      have hts := hmk.ts
      clear hmk HMK
      have REc0 := nw16.out.c0
      have REc1 := nw16.out.c1
      go_wp2_with fail
      refine (interval_w MK.out.hx MK.out.hy HI.out E17.out T17.out).mono ?_
      rintro e w18 ⟨rfl, bz⟩
      clear REc0 REc1
      have L19 := Hid.mk7 (L17.out.later bz)
      have T19 := Hid.mk7 (T17.out.later bz)
      have G19 := Hid.mk7 (G17.out.trans (bz.mono G17.out.size))
      have E19 := Hid.mk7 (E17.out.later bz)
      have RE19 := Hid.mk7 (nw16.out.later bz)
      clear L17 T17 G17 E17 nw16 bz
      have bz : RowKit.Below w18.heap.size w18 (w18.alloc (.cells #[.int .i64 (X : Nat), .int .i64 (Y : Nat)] 26)) := below_newE (RowKit.Below.refl _ _) _
      have nw20 := Hid.mk7 (@Rv.new w18 (.int .i64 (X : Nat)) (.int .i64 (Y : Nat)))
      have L21 := Hid.mk7 (L19.out.later bz)
      have T21 := Hid.mk7 (T19.out.later bz)
      have G21 := Hid.mk7 (G19.out.trans (bz.mono G19.out.size))
      have E21 := Hid.mk7 (E19.out.later bz)
      have RE21 := Hid.mk7 (RE19.out.later bz)
      clear L19 T19 G19 E19 RE19 bz
      have REc0 := RE21.out.c0
      have REc1 := RE21.out.c1
      have RXc0 := nw20.out.c0
      have RXc1 := nw20.out.c1
      go_wp2_with fail
      refine (apply_v HI.out rfl MK.out.ap E21.out T21.out).mono ?_
      rintro e w22 ⟨rfl, bz⟩
      clear REc0 REc1 RXc0 RXc1
      have L23 := Hid.mk7 (L21.out.later bz)
      have T23 := Hid.mk7 (T21.out.later bz)
      have G23 := Hid.mk7 (G21.out.trans (bz.mono G21.out.size))
      have E23 := Hid.mk7 (E21.out.later bz)
      have RE23 := Hid.mk7 (RE21.out.later bz)
      have RX23 := Hid.mk7 (nw20.out.later bz)
      clear L21 T21 G21 E21 RE21 nw20 bz
      obtain ⟨_, _, e4, _, _, hcells⟩ := id L23.out
      cases e4
      have HC := Hid.mk7 hcells
      clear hcells
      go_wp2
      go_loopw [17, 18] (fun yv iv wr => ∃ (k : Nat) (y : Bool), k ≤ l.length ∧ iv = .int .i64 (k : Nat) ∧ yv = .bool y ∧ Hid (y = whB a b (l.take k)) ∧ w22 = wr) (fun _ iv _ => l.length - (intOf iv).toNat)
      case atStart => exact ⟨0, true, Nat.zero_le _, rfl, rfl, rfl, rfl⟩
      case round =>
        obtain ⟨k, y, hk, rfl, rfl, HS, rfl⟩ := hrel
        by_cases hlt : k < l.length
        · obtain ⟨⟨f, u, T⟩, hr⟩ : ∃ r, l[k]? = some r := ⟨l[k], List.getElem?_eq_getElem hlt⟩
          obtain ⟨g, off, rfl, q0, q1, q2⟩ := HC.out k _ hr
          simp only at q0 q1
          have HTK := Hid.mk7 (whB_take (a := a) (b := b) hr)
          clear hr q2
          cases y with
          | false =>
            have HS2 : Hid (false = whB a b (l.take (k + 1))) := by show _ = _; rw [HTK.out, ← HS.out, Bool.false_and]
            clear HS HTK
            go_wp2
            go_roundw
            case rel => exact ⟨k + 1, false, by omega, by go_num, rfl, HS2, trivial⟩
            case measure => simp [intOf]; omega
          | true =>
            by_cases h1 : u ≤ (a : Int)
            · have e1 : decide (u ≤ (a : Int)) = true := decide_eq_true h1
              have HS2 : Hid (true = whB a b (l.take (k + 1))) := by show _ = _; rw [HTK.out, ← HS.out, Bool.true_and]; exact (decide_eq_true (Or.inl h1)).symm
              clear HS HTK
              go_wp2
              go_roundw
              case rel => exact ⟨k + 1, true, by omega, by go_num, rfl, HS2, trivial⟩
              case measure => simp [intOf]; omega
            · have e1 : decide (u ≤ (a : Int)) = false := decide_eq_false h1
              by_cases h2 : (b : Int) ≤ f
              · have e2 : decide ((b : Int) ≤ f) = true := decide_eq_true h2
                have HS2 : Hid (true = whB a b (l.take (k + 1))) := by show _ = _; rw [HTK.out, ← HS.out, Bool.true_and]; exact (decide_eq_true (Or.inr h2)).symm
                clear HS HTK
                go_wp2
                go_roundw
                case rel => exact ⟨k + 1, true, by omega, by go_num, rfl, HS2, trivial⟩
                case measure => simp [intOf]; omega
              · have e2 : decide ((b : Int) ≤ f) = false := decide_eq_false h2
                have HS2 : Hid (false = whB a b (l.take (k + 1))) := by show _ = _; rw [HTK.out, ← HS.out, Bool.true_and]; exact (decide_eq_false (fun h => h.elim h1 h2)).symm
                clear HS HTK
                go_wp2
                go_roundw
                case rel => exact ⟨k + 1, false, by omega, by go_num, rfl, HS2, trivial⟩
                case measure => simp [intOf]; omega
        · obtain rfl : k = l.length := by omega
          have HWH : Hid (y = whB a b l) := by have := HS.out; rwa [List.take_length] at this
          have RX0 := RX23.out.c0
          have RX1 := RX23.out.c1
          have d3 : decide ((Y : Int) < (X : Int)) = false := decide_eq_false (by omega)
          have d4 : decide (Y < X) = false := decide_eq_false (by omega)
          have d5 : decide ((t.size : Int) < (Y : Int)) = false := decide_eq_false (by omega)
          have d6 : decide (t.size < Y) = false := decide_eq_false (by omega)
          have GG := G23
          clear HS HC
          cases y with
          | false =>
            go_wp2_with fail
            go_quiet (fail)
            go_wp2
            go_ret
            exact ⟨rfl, below_drewN GG.out nq⟩
          | true =>
            have hz := MK.out.sz
            have hz2 := MK.out.wh HWH.out.symm
            have f4 : ((Y : Int) ≤ (t.size : Int)) = True := by simp; omega
            have f5 : ((X : Int) ≤ (Y : Int)) = True := by simp; omega
            have f6 : Y ≤ t.size := by omega
            have f7 : X ≤ Y := by omega
            have f8 : ((b : Int) ≤ (s.size : Int)) = True := by simp; omega
            have f9 : ((a : Int) ≤ (b : Int)) = True := by simp; omega
            have g6 : b ≤ s.size := by omega
            have g7 : a ≤ b := by omega
            clear hts
            go_wp2_with fail
            go_quiet (fail)
            go_wp2
            go_ret
            exact ⟨rfl, below_drewN GG.out nq⟩
end Go.Proofs.YtelpinngimohoaaDoor
