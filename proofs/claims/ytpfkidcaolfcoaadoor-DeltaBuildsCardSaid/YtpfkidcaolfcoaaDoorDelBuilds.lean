/- DeltaBuilds walked. -/
import Derived.Test.YtpfkidcaolfcoaaDoorDelRefBuild
import Derived.Test.YtpfkidcaolfcoaaDoorDelTells
import Derived.Test.YtpfkidcaolfcoaaDoorDelDoes
namespace Go.Proofs.YtpfkidcaolfcoaaDoor
open Go.RowKit Go.Sort Go.Lib
set_option linter.unusedSimpArgs false
set_option linter.unusedVariables false

theorem keep11_is {m : Int} (h : 0 ≤ m ∧ m ≤ 20000) : isB m (elG m [] 0 []) = true ∧ szE (elG m [] 0 []) = m ∧ m - cpS (elG m [] 0 []) = 0 := by
  have hf : flt m [] = 0 := by
    unfold flt
    rw [decide_eq_true h]
    simp [wthB, ordB, vldB, sz8]
    omega
  have hch : Chs m 0 [] := h.1
  have hs := elG_size hch
  have hl : (elG m [] 0 []).length ≤ 60 := by
    unfold elG
    rw [List.length_append]
    unfold tx
    rw [if_pos rfl]
    split <;> simp
  have hi := isB_elG hf hl
  have h0 : sz8 m [] = m := by simp [sz8]
  refine ⟨hi, by rw [hs, h0], ?_⟩
  by_cases hm : 0 < m
  · simp [elG, tx, cpS, hm]
  · simp [elG, tx, cpS, hm]; omega
theorem rsame_self {w : World} {u v : Value} {es : List El} (base : Int) (h1 : ElAt w u es) (h2 : ElAt w v es) (hl : es.length ≤ 60) :
    Calls Tryd.prog 15 #[.agg #[.int .i64 base, u], .agg #[.int .i64 base, v]] w fun e w' => e = .returned (.bool true) ∧ RowKit.Below w.heap.size w w' := by
  have := rsame_any base base h1 h2 (by omega)
  rw [decide_eq_true ⟨rfl, rfl⟩] at this
  exact this
theorem ris_yes {w : World} {v : Value} {es : List El} {base : Int} (hi : isB base es = true) (h : ElAt w v es) :
    Calls Tryd.prog 11 #[.agg #[.int .i64 base, v]] w fun e w' => e = .returned (.bool true) ∧ RowKit.Below w.heap.size w w' := by
  have := ris_any base h ((dl_of hi).sm.mono (by unfold maxLen; omega))
  rw [hi] at this
  exact this
set_option maxHeartbeats 2000000 in
set_option maxRecDepth 100000 in
theorem builds11_any (base : Int) {v : Value} {l : List El} (hl : l.length ≤ maxLen) (hsm : Sm l maxLen) (w : World) (tb : Nat × Nat) (hT : Tab w tb) (h : ElAt w v l) :
    Calls Tryd.prog 4 #[.int .i64 base, v] w fun e w' => e = .returned (.bool true) ∧ RowKit.Below w.heap.size w w' := by
  obtain ⟨a, cap, rfl, _⟩ := id h
  have V0 := Hid.mk7 h
  have T0 := Hid.mk7 hT
  have G0 : Hid (RowKit.Below w.heap.size w w) := RowKit.Below.refl _ _
  have HK := Hid.mk7 (known11_any w tb hT)
  have HF := Hid.mk7 (fun W (hE : ElAt W (.slice a l.length cap) l) => fewC_any hE hl)
  clear h hT
  by_cases hmid : 400 < base ∧ base ≤ 20000
  · have t1 : decide ((400 : Int) < base) = true := decide_eq_true hmid.1
    have t2 : decide (base ≤ (20000 : Int)) = true := decide_eq_true hmid.2
    go_enter Tryd.func4, Tryd.ntmps4
    go_wp2_with fail
    refine (HK.out).mono ?_
    rintro e w1 ⟨rfl, b1⟩
    have V1 := Hid.mk7 (V0.out.later b1)
    have T1 := Hid.mk7 (T0.out.later b1)
    have G1 := Hid.mk7 (G0.out.trans (b1.mono G0.out.size))
    clear V0 T0 G0 b1
    go_wp2
    go_ret
    exact ⟨rfl, G1.out⟩
  have hdom : base ≤ 400 ∨ 20000 < base := by omega
  have HG : Hid (∀ (P : Prop), (base ≤ 400 → decide ((400 : Int) < base) = false → P) → (20000 < base → decide ((400 : Int) < base) = true → decide (base ≤ (20000 : Int)) = false → P) → P) := fun P p1 p2 => by
    rcases hdom with h1 | h1
    · exact p1 h1 (decide_eq_false (by omega))
    · exact p2 h1 (decide_eq_true (by omega)) (decide_eq_false (by omega))
  by_cases hfew : fewC l = true
  case neg =>
    have hf' : fewC l = false := by simpa using hfew
    rw [hf'] at HF
    rcases hdom with h1 | h1
    · have t1 : decide ((400 : Int) < base) = false := decide_eq_false (by omega)
      go_enter Tryd.func4, Tryd.ntmps4
      go_wp2_with fail
      refine (HK.out).mono ?_
      rintro e w1 ⟨rfl, b1⟩
      have V1 := Hid.mk7 (V0.out.later b1)
      have T1 := Hid.mk7 (T0.out.later b1)
      have G1 := Hid.mk7 (G0.out.trans (b1.mono G0.out.size))
      clear V0 T0 G0 b1
      go_wp2_with fail
      refine (HF.out _ V1.out).mono ?_
      rintro e w2 ⟨rfl, b2⟩
      have V2 := Hid.mk7 (V1.out.later b2)
      have T2 := Hid.mk7 (T1.out.later b2)
      have G2 := Hid.mk7 (G1.out.trans (b2.mono G1.out.size))
      clear V1 T1 G1 b2
      go_wp2
      go_ret
      exact ⟨rfl, G2.out⟩
    · have t1 : decide ((400 : Int) < base) = true := decide_eq_true (by omega)
      have t2 : decide (base ≤ (20000 : Int)) = false := decide_eq_false (by omega)
      go_enter Tryd.func4, Tryd.ntmps4
      go_wp2_with fail
      refine (HK.out).mono ?_
      rintro e w1 ⟨rfl, b1⟩
      have V1 := Hid.mk7 (V0.out.later b1)
      have T1 := Hid.mk7 (T0.out.later b1)
      have G1 := Hid.mk7 (G0.out.trans (b1.mono G0.out.size))
      clear V0 T0 G0 b1
      go_wp2_with fail
      refine (HF.out _ V1.out).mono ?_
      rintro e w2 ⟨rfl, b2⟩
      have V2 := Hid.mk7 (V1.out.later b2)
      have T2 := Hid.mk7 (T1.out.later b2)
      have G2 := Hid.mk7 (G1.out.trans (b2.mono G1.out.size))
      clear V1 T1 G1 b2
      go_wp2
      go_ret
      exact ⟨rfl, G2.out⟩
  rw [hfew] at HF
  obtain ⟨hsm1, hl50, hin⟩ := fewC_sm hfew
  clear HG hfew hsm
  have HSM := Hid.mk7 hsm1
  have HRB := Hid.mk7 (fun W (hE : ElAt W (.slice a l.length cap) l) => rbuild_any base hE hdom hsm1 hl50 hin)
  have hw3 : base ≤ 0 ∨ (0 < base ∧ base ≤ 400) ∨ 20000 < base := by omega
  clear hsm1 hmid
  by_cases hflt : flt base l = 0
  case neg =>
    obtain ⟨r, HR⟩ : ∃ r, Hid (flt base l = r) := ⟨_, rfl⟩
    rw [HR.out] at hflt
    have dr0 : (r == 0) = false := by simpa using hflt
    have dr1 : (r != 0) = true := by simpa using hflt
    rcases hw3 with h1 | ⟨h0, h1⟩ | h1
    · have t1 : decide ((400 : Int) < base) = false := decide_eq_false (by omega)
      obtain ⟨hki, hks, hkd⟩ := keep11_is (m := 0) (by omega)
      obtain ⟨ks, HKE⟩ : ∃ ks, Hid (elG 0 [] 0 [] = ks) := ⟨_, rfl⟩
      rw [HKE.out] at hki hks hkd
      have HKI := Hid.mk7 hki
      have HKS := Hid.mk7 hks
      have HKD := Hid.mk7 hkd
      have HM : Hid (min (max base 0) 20000 = 0) := by show _ = _; omega
      clear hki hks hkd hdom
      go_enter Tryd.func4, Tryd.ntmps4
      go_wp2_with fail
      refine (HK.out).mono ?_
      rintro e w1 ⟨rfl, b1⟩
      have V1 := Hid.mk7 (V0.out.later b1)
      have T1 := Hid.mk7 (T0.out.later b1)
      have G1 := Hid.mk7 (G0.out.trans (b1.mono G0.out.size))
      clear V0 T0 G0 b1
      go_wp2_with fail
      refine (HF.out _ V1.out).mono ?_
      rintro e w2 ⟨rfl, b2⟩
      have V2 := Hid.mk7 (V1.out.later b2)
      have T2 := Hid.mk7 (T1.out.later b2)
      have G2 := Hid.mk7 (G1.out.trans (b2.mono G1.out.size))
      clear V1 T1 G1 b2
      go_wp2_with fail
      refine (build_bv HR.out hflt (HSM.out.mono (by omega)) (by omega) V2.out T2.out).mono ?_
      rintro e w3 ⟨rfl, b3⟩
      have V3 := Hid.mk7 (V2.out.later b3)
      have T3 := Hid.mk7 (T2.out.later b3)
      have G3 := Hid.mk7 (G2.out.trans (b3.mono G2.out.size))
      clear V2 T2 G2 b3
      have GA := Hid.mk7 (below_newE G3.out (.cells #[.int .i64 0, .slice none 0 0] 24))
      have VA := Hid.mk7 (V3.out.alloc (.cells #[.int .i64 0, .slice none 0 0] 24))
      have TA := Hid.mk7 (T3.out.nu (.cells #[.int .i64 0, .slice none 0 0] 24))
      have RA := Hid.mk7 (Rd.new w3 (.int .i64 0) (.slice none 0 0))
      go_wp2_with fail
      refine (HRB.out _ VA.out).mono ?_
      rintro e w4 ⟨hB, b4⟩
      unfold BldR at hB
      rw [HR.out, if_pos hflt] at hB
      subst hB
      have GB := Hid.mk7 (below_newE (GA.out.trans (b4.mono GA.out.size)) (.cells #[.int .i64 0, .slice none 0 0] 24))
      have RB := Hid.mk7 ((RA.out.later b4).alloc (.cells #[.int .i64 0, .slice none 0 0] 24))
      have RX := Hid.mk7 (Rd.new w4 (.int .i64 0) (.slice none 0 0))
      have TB := Hid.mk7 ((TA.out.later b4).nu (.cells #[.int .i64 0, .slice none 0 0] 24))
      clear GA VA TA RA b4 V3 T3 G3
      go_wp2_with fail
      refine (keep_v base HM.out HKE.out _).mono ?_
      rintro e w5 ⟨kv, rfl, hK, b5⟩
      obtain ⟨ka, kcap, rfl, _⟩ := id hK
      have G6 := Hid.mk7 (below_newE (GB.out.trans (b5.mono GB.out.size)) (.cells #[.int .i64 0, .slice ka ks.length kcap] 24))
      have R6 := Hid.mk7 ((RB.out.later b5).alloc (.cells #[.int .i64 0, .slice ka ks.length kcap] 24))
      have Y6 := Hid.mk7 ((RX.out.later b5).alloc (.cells #[.int .i64 0, .slice ka ks.length kcap] 24))
      have T6 := Hid.mk7 ((TB.out.later b5).nu (.cells #[.int .i64 0, .slice ka ks.length kcap] 24))
      have E6 := Hid.mk7 (hK.alloc (.cells #[.int .i64 0, .slice ka ks.length kcap] 24))
      have K6 := Hid.mk7 (Rd.new w5 (.int .i64 0) (.slice ka ks.length kcap))
      clear GB RB RX TB b5 hK
      have d0 := R6.out.c0
      have d1 := R6.out.c1
      have x0 := Y6.out.c0
      have x1 := Y6.out.c1
      have k0 := K6.out.c0
      have k1 := K6.out.c1
      go_wp2_with fail
      refine (size_v HKI.out HKS.out E6.out T6.out).mono ?_
      rintro e w7 ⟨rfl, b7⟩
      clear d0 d1 x0 x1 k0 k1
      have R7 := Hid.mk7 (R6.out.later b7)
      have Y7 := Hid.mk7 (Y6.out.later b7)
      have T7 := Hid.mk7 (T6.out.later b7)
      have E7 := Hid.mk7 (E6.out.later b7)
      have K7 := Hid.mk7 (K6.out.later b7)
      have G7 := Hid.mk7 (G6.out.trans (b7.mono G6.out.size))
      clear R6 Y6 T6 E6 K6 G6 b7
      have d0 := R7.out.c0
      have d1 := R7.out.c1
      have x0 := Y7.out.c0
      have x1 := Y7.out.c1
      have k0 := K7.out.c0
      have k1 := K7.out.c1
      go_wp2_with fail
      refine (drops_v HKI.out HKD.out E7.out T7.out).mono ?_
      rintro e w8 ⟨rfl, b8⟩
      clear d0 d1 x0 x1 k0 k1
      have R8 := Hid.mk7 (R7.out.later b8)
      have Y8 := Hid.mk7 (Y7.out.later b8)
      have T8 := Hid.mk7 (T7.out.later b8)
      have E8 := Hid.mk7 (E7.out.later b8)
      have K8 := Hid.mk7 (K7.out.later b8)
      have G8 := Hid.mk7 (G7.out.trans (b8.mono G7.out.size))
      clear R7 Y7 T7 E7 K7 G7 b8
      have d0 := R8.out.c0
      have d1 := R8.out.c1
      have x0 := Y8.out.c0
      have x1 := Y8.out.c1
      have k0 := K8.out.c0
      have k1 := K8.out.c1
      go_wp2
      go_ret
      exact ⟨rfl, G8.out⟩
    · have t1 : decide ((400 : Int) < base) = false := decide_eq_false (by omega)
      obtain ⟨hki, hks, hkd⟩ := keep11_is (m := base) (by omega)
      obtain ⟨ks, HKE⟩ : ∃ ks, Hid (elG base [] 0 [] = ks) := ⟨_, rfl⟩
      rw [HKE.out] at hki hks hkd
      have HKI := Hid.mk7 hki
      have HKS := Hid.mk7 hks
      have HKD := Hid.mk7 hkd
      have HM : Hid (min (max base 0) 20000 = base) := by show _ = _; omega
      clear hki hks hkd hdom
      go_enter Tryd.func4, Tryd.ntmps4
      go_wp2_with fail
      refine (HK.out).mono ?_
      rintro e w1 ⟨rfl, b1⟩
      have V1 := Hid.mk7 (V0.out.later b1)
      have T1 := Hid.mk7 (T0.out.later b1)
      have G1 := Hid.mk7 (G0.out.trans (b1.mono G0.out.size))
      clear V0 T0 G0 b1
      go_wp2_with fail
      refine (HF.out _ V1.out).mono ?_
      rintro e w2 ⟨rfl, b2⟩
      have V2 := Hid.mk7 (V1.out.later b2)
      have T2 := Hid.mk7 (T1.out.later b2)
      have G2 := Hid.mk7 (G1.out.trans (b2.mono G1.out.size))
      clear V1 T1 G1 b2
      go_wp2_with fail
      refine (build_bv HR.out hflt (HSM.out.mono (by omega)) (by omega) V2.out T2.out).mono ?_
      rintro e w3 ⟨rfl, b3⟩
      have V3 := Hid.mk7 (V2.out.later b3)
      have T3 := Hid.mk7 (T2.out.later b3)
      have G3 := Hid.mk7 (G2.out.trans (b3.mono G2.out.size))
      clear V2 T2 G2 b3
      have GA := Hid.mk7 (below_newE G3.out (.cells #[.int .i64 0, .slice none 0 0] 24))
      have VA := Hid.mk7 (V3.out.alloc (.cells #[.int .i64 0, .slice none 0 0] 24))
      have TA := Hid.mk7 (T3.out.nu (.cells #[.int .i64 0, .slice none 0 0] 24))
      have RA := Hid.mk7 (Rd.new w3 (.int .i64 0) (.slice none 0 0))
      go_wp2_with fail
      refine (HRB.out _ VA.out).mono ?_
      rintro e w4 ⟨hB, b4⟩
      unfold BldR at hB
      rw [HR.out, if_pos hflt] at hB
      subst hB
      have GB := Hid.mk7 (below_newE (GA.out.trans (b4.mono GA.out.size)) (.cells #[.int .i64 0, .slice none 0 0] 24))
      have RB := Hid.mk7 ((RA.out.later b4).alloc (.cells #[.int .i64 0, .slice none 0 0] 24))
      have RX := Hid.mk7 (Rd.new w4 (.int .i64 0) (.slice none 0 0))
      have TB := Hid.mk7 ((TA.out.later b4).nu (.cells #[.int .i64 0, .slice none 0 0] 24))
      clear GA VA TA RA b4 V3 T3 G3
      go_wp2_with fail
      refine (keep_v base HM.out HKE.out _).mono ?_
      rintro e w5 ⟨kv, rfl, hK, b5⟩
      obtain ⟨ka, kcap, rfl, _⟩ := id hK
      have G6 := Hid.mk7 (below_newE (GB.out.trans (b5.mono GB.out.size)) (.cells #[.int .i64 base, .slice ka ks.length kcap] 24))
      have R6 := Hid.mk7 ((RB.out.later b5).alloc (.cells #[.int .i64 base, .slice ka ks.length kcap] 24))
      have Y6 := Hid.mk7 ((RX.out.later b5).alloc (.cells #[.int .i64 base, .slice ka ks.length kcap] 24))
      have T6 := Hid.mk7 ((TB.out.later b5).nu (.cells #[.int .i64 base, .slice ka ks.length kcap] 24))
      have E6 := Hid.mk7 (hK.alloc (.cells #[.int .i64 base, .slice ka ks.length kcap] 24))
      have K6 := Hid.mk7 (Rd.new w5 (.int .i64 base) (.slice ka ks.length kcap))
      clear GB RB RX TB b5 hK
      have d0 := R6.out.c0
      have d1 := R6.out.c1
      have x0 := Y6.out.c0
      have x1 := Y6.out.c1
      have k0 := K6.out.c0
      have k1 := K6.out.c1
      go_wp2_with fail
      refine (size_v HKI.out HKS.out E6.out T6.out).mono ?_
      rintro e w7 ⟨rfl, b7⟩
      clear d0 d1 x0 x1 k0 k1
      have R7 := Hid.mk7 (R6.out.later b7)
      have Y7 := Hid.mk7 (Y6.out.later b7)
      have T7 := Hid.mk7 (T6.out.later b7)
      have E7 := Hid.mk7 (E6.out.later b7)
      have K7 := Hid.mk7 (K6.out.later b7)
      have G7 := Hid.mk7 (G6.out.trans (b7.mono G6.out.size))
      clear R6 Y6 T6 E6 K6 G6 b7
      have d0 := R7.out.c0
      have d1 := R7.out.c1
      have x0 := Y7.out.c0
      have x1 := Y7.out.c1
      have k0 := K7.out.c0
      have k1 := K7.out.c1
      go_wp2_with fail
      refine (drops_v HKI.out HKD.out E7.out T7.out).mono ?_
      rintro e w8 ⟨rfl, b8⟩
      clear d0 d1 x0 x1 k0 k1
      have R8 := Hid.mk7 (R7.out.later b8)
      have Y8 := Hid.mk7 (Y7.out.later b8)
      have T8 := Hid.mk7 (T7.out.later b8)
      have E8 := Hid.mk7 (E7.out.later b8)
      have K8 := Hid.mk7 (K7.out.later b8)
      have G8 := Hid.mk7 (G7.out.trans (b8.mono G7.out.size))
      clear R7 Y7 T7 E7 K7 G7 b8
      have d0 := R8.out.c0
      have d1 := R8.out.c1
      have x0 := Y8.out.c0
      have x1 := Y8.out.c1
      have k0 := K8.out.c0
      have k1 := K8.out.c1
      go_wp2
      go_ret
      exact ⟨rfl, G8.out⟩
    · have t1 : decide ((400 : Int) < base) = true := decide_eq_true (by omega)
      have t2 : decide (base ≤ (20000 : Int)) = false := decide_eq_false (by omega)
      obtain ⟨hki, hks, hkd⟩ := keep11_is (m := 20000) (by omega)
      obtain ⟨ks, HKE⟩ : ∃ ks, Hid (elG 20000 [] 0 [] = ks) := ⟨_, rfl⟩
      rw [HKE.out] at hki hks hkd
      have HKI := Hid.mk7 hki
      have HKS := Hid.mk7 hks
      have HKD := Hid.mk7 hkd
      have HM : Hid (min (max base 0) 20000 = 20000) := by show _ = _; omega
      clear hki hks hkd hdom
      go_enter Tryd.func4, Tryd.ntmps4
      go_wp2_with fail
      refine (HK.out).mono ?_
      rintro e w1 ⟨rfl, b1⟩
      have V1 := Hid.mk7 (V0.out.later b1)
      have T1 := Hid.mk7 (T0.out.later b1)
      have G1 := Hid.mk7 (G0.out.trans (b1.mono G0.out.size))
      clear V0 T0 G0 b1
      go_wp2_with fail
      refine (HF.out _ V1.out).mono ?_
      rintro e w2 ⟨rfl, b2⟩
      have V2 := Hid.mk7 (V1.out.later b2)
      have T2 := Hid.mk7 (T1.out.later b2)
      have G2 := Hid.mk7 (G1.out.trans (b2.mono G1.out.size))
      clear V1 T1 G1 b2
      go_wp2_with fail
      refine (build_bv HR.out hflt (HSM.out.mono (by omega)) (by omega) V2.out T2.out).mono ?_
      rintro e w3 ⟨rfl, b3⟩
      have V3 := Hid.mk7 (V2.out.later b3)
      have T3 := Hid.mk7 (T2.out.later b3)
      have G3 := Hid.mk7 (G2.out.trans (b3.mono G2.out.size))
      clear V2 T2 G2 b3
      have GA := Hid.mk7 (below_newE G3.out (.cells #[.int .i64 0, .slice none 0 0] 24))
      have VA := Hid.mk7 (V3.out.alloc (.cells #[.int .i64 0, .slice none 0 0] 24))
      have TA := Hid.mk7 (T3.out.nu (.cells #[.int .i64 0, .slice none 0 0] 24))
      have RA := Hid.mk7 (Rd.new w3 (.int .i64 0) (.slice none 0 0))
      go_wp2_with fail
      refine (HRB.out _ VA.out).mono ?_
      rintro e w4 ⟨hB, b4⟩
      unfold BldR at hB
      rw [HR.out, if_pos hflt] at hB
      subst hB
      have GB := Hid.mk7 (below_newE (GA.out.trans (b4.mono GA.out.size)) (.cells #[.int .i64 0, .slice none 0 0] 24))
      have RB := Hid.mk7 ((RA.out.later b4).alloc (.cells #[.int .i64 0, .slice none 0 0] 24))
      have RX := Hid.mk7 (Rd.new w4 (.int .i64 0) (.slice none 0 0))
      have TB := Hid.mk7 ((TA.out.later b4).nu (.cells #[.int .i64 0, .slice none 0 0] 24))
      clear GA VA TA RA b4 V3 T3 G3
      go_wp2_with fail
      refine (keep_v base HM.out HKE.out _).mono ?_
      rintro e w5 ⟨kv, rfl, hK, b5⟩
      obtain ⟨ka, kcap, rfl, _⟩ := id hK
      have G6 := Hid.mk7 (below_newE (GB.out.trans (b5.mono GB.out.size)) (.cells #[.int .i64 20000, .slice ka ks.length kcap] 24))
      have R6 := Hid.mk7 ((RB.out.later b5).alloc (.cells #[.int .i64 20000, .slice ka ks.length kcap] 24))
      have Y6 := Hid.mk7 ((RX.out.later b5).alloc (.cells #[.int .i64 20000, .slice ka ks.length kcap] 24))
      have T6 := Hid.mk7 ((TB.out.later b5).nu (.cells #[.int .i64 20000, .slice ka ks.length kcap] 24))
      have E6 := Hid.mk7 (hK.alloc (.cells #[.int .i64 20000, .slice ka ks.length kcap] 24))
      have K6 := Hid.mk7 (Rd.new w5 (.int .i64 20000) (.slice ka ks.length kcap))
      clear GB RB RX TB b5 hK
      have d0 := R6.out.c0
      have d1 := R6.out.c1
      have x0 := Y6.out.c0
      have x1 := Y6.out.c1
      have k0 := K6.out.c0
      have k1 := K6.out.c1
      go_wp2_with fail
      refine (size_v HKI.out HKS.out E6.out T6.out).mono ?_
      rintro e w7 ⟨rfl, b7⟩
      clear d0 d1 x0 x1 k0 k1
      have R7 := Hid.mk7 (R6.out.later b7)
      have Y7 := Hid.mk7 (Y6.out.later b7)
      have T7 := Hid.mk7 (T6.out.later b7)
      have E7 := Hid.mk7 (E6.out.later b7)
      have K7 := Hid.mk7 (K6.out.later b7)
      have G7 := Hid.mk7 (G6.out.trans (b7.mono G6.out.size))
      clear R6 Y6 T6 E6 K6 G6 b7
      have d0 := R7.out.c0
      have d1 := R7.out.c1
      have x0 := Y7.out.c0
      have x1 := Y7.out.c1
      have k0 := K7.out.c0
      have k1 := K7.out.c1
      go_wp2_with fail
      refine (drops_v HKI.out HKD.out E7.out T7.out).mono ?_
      rintro e w8 ⟨rfl, b8⟩
      clear d0 d1 x0 x1 k0 k1
      have R8 := Hid.mk7 (R7.out.later b8)
      have Y8 := Hid.mk7 (Y7.out.later b8)
      have T8 := Hid.mk7 (T7.out.later b8)
      have E8 := Hid.mk7 (E7.out.later b8)
      have K8 := Hid.mk7 (K7.out.later b8)
      have G8 := Hid.mk7 (G7.out.trans (b8.mono G7.out.size))
      clear R7 Y7 T7 E7 K7 G7 b8
      have d0 := R8.out.c0
      have d1 := R8.out.c1
      have x0 := Y8.out.c0
      have x1 := Y8.out.c1
      have k0 := K8.out.c0
      have k1 := K8.out.c1
      go_wp2
      go_ret
      exact ⟨rfl, G8.out⟩
  have HR := Hid.mk7 hflt
  clear hflt
  by_cases h60 : 60 < (elG base [] 0 l).length
  · rcases hw3 with h1 | ⟨h0, h1⟩ | h1
    · have t1 : decide ((400 : Int) < base) = false := decide_eq_false (by omega)
      obtain ⟨hki, hks, hkd⟩ := keep11_is (m := 0) (by omega)
      obtain ⟨ks, HKE⟩ : ∃ ks, Hid (elG 0 [] 0 [] = ks) := ⟨_, rfl⟩
      rw [HKE.out] at hki hks hkd
      have HKI := Hid.mk7 hki
      have HKS := Hid.mk7 hks
      have HKD := Hid.mk7 hkd
      have HM : Hid (min (max base 0) 20000 = 0) := by show _ = _; omega
      clear hki hks hkd hdom
      go_enter Tryd.func4, Tryd.ntmps4
      go_wp2_with fail
      refine (HK.out).mono ?_
      rintro e w1 ⟨rfl, b1⟩
      have V1 := Hid.mk7 (V0.out.later b1)
      have T1 := Hid.mk7 (T0.out.later b1)
      have G1 := Hid.mk7 (G0.out.trans (b1.mono G0.out.size))
      clear V0 T0 G0 b1
      go_wp2_with fail
      refine (HF.out _ V1.out).mono ?_
      rintro e w2 ⟨rfl, b2⟩
      have V2 := Hid.mk7 (V1.out.later b2)
      have T2 := Hid.mk7 (T1.out.later b2)
      have G2 := Hid.mk7 (G1.out.trans (b2.mono G1.out.size))
      clear V1 T1 G1 b2
      go_wp2_with fail
      refine (build_many base V2.out (HSM.out.mono (by omega)) (by omega) (by omega) tb T2.out HR.out h60).mono ?_
      rintro e w3 ⟨rfl, b3⟩
      have V3 := Hid.mk7 (V2.out.later b3)
      have T3 := Hid.mk7 (T2.out.later b3)
      have G3 := Hid.mk7 (G2.out.trans (b3.mono G2.out.size))
      clear V2 T2 G2 b3
      have GA := Hid.mk7 (below_newE G3.out (.cells #[.int .i64 0, .slice none 0 0] 24))
      have VA := Hid.mk7 (V3.out.alloc (.cells #[.int .i64 0, .slice none 0 0] 24))
      have TA := Hid.mk7 (T3.out.nu (.cells #[.int .i64 0, .slice none 0 0] 24))
      have RA := Hid.mk7 (Rd.new w3 (.int .i64 0) (.slice none 0 0))
      go_wp2_with fail
      refine (HRB.out _ VA.out).mono ?_
      rintro e w4 ⟨hB, b4⟩
      unfold BldR at hB
      rw [HR.out, if_neg (by decide), if_pos h60] at hB
      subst hB
      have GB := Hid.mk7 (below_newE (GA.out.trans (b4.mono GA.out.size)) (.cells #[.int .i64 0, .slice none 0 0] 24))
      have RB := Hid.mk7 ((RA.out.later b4).alloc (.cells #[.int .i64 0, .slice none 0 0] 24))
      have RX := Hid.mk7 (Rd.new w4 (.int .i64 0) (.slice none 0 0))
      have TB := Hid.mk7 ((TA.out.later b4).nu (.cells #[.int .i64 0, .slice none 0 0] 24))
      clear GA VA TA RA b4 V3 T3 G3
      go_wp2_with fail
      refine (keep_v base HM.out HKE.out _).mono ?_
      rintro e w5 ⟨kv, rfl, hK, b5⟩
      obtain ⟨ka, kcap, rfl, _⟩ := id hK
      have G6 := Hid.mk7 (below_newE (GB.out.trans (b5.mono GB.out.size)) (.cells #[.int .i64 0, .slice ka ks.length kcap] 24))
      have R6 := Hid.mk7 ((RB.out.later b5).alloc (.cells #[.int .i64 0, .slice ka ks.length kcap] 24))
      have Y6 := Hid.mk7 ((RX.out.later b5).alloc (.cells #[.int .i64 0, .slice ka ks.length kcap] 24))
      have T6 := Hid.mk7 ((TB.out.later b5).nu (.cells #[.int .i64 0, .slice ka ks.length kcap] 24))
      have E6 := Hid.mk7 (hK.alloc (.cells #[.int .i64 0, .slice ka ks.length kcap] 24))
      have K6 := Hid.mk7 (Rd.new w5 (.int .i64 0) (.slice ka ks.length kcap))
      clear GB RB RX TB b5 hK
      have d0 := R6.out.c0
      have d1 := R6.out.c1
      have x0 := Y6.out.c0
      have x1 := Y6.out.c1
      have k0 := K6.out.c0
      have k1 := K6.out.c1
      go_wp2_with fail
      refine (size_v HKI.out HKS.out E6.out T6.out).mono ?_
      rintro e w7 ⟨rfl, b7⟩
      clear d0 d1 x0 x1 k0 k1
      have R7 := Hid.mk7 (R6.out.later b7)
      have Y7 := Hid.mk7 (Y6.out.later b7)
      have T7 := Hid.mk7 (T6.out.later b7)
      have E7 := Hid.mk7 (E6.out.later b7)
      have K7 := Hid.mk7 (K6.out.later b7)
      have G7 := Hid.mk7 (G6.out.trans (b7.mono G6.out.size))
      clear R6 Y6 T6 E6 K6 G6 b7
      have d0 := R7.out.c0
      have d1 := R7.out.c1
      have x0 := Y7.out.c0
      have x1 := Y7.out.c1
      have k0 := K7.out.c0
      have k1 := K7.out.c1
      go_wp2_with fail
      refine (drops_v HKI.out HKD.out E7.out T7.out).mono ?_
      rintro e w8 ⟨rfl, b8⟩
      clear d0 d1 x0 x1 k0 k1
      have R8 := Hid.mk7 (R7.out.later b8)
      have Y8 := Hid.mk7 (Y7.out.later b8)
      have T8 := Hid.mk7 (T7.out.later b8)
      have E8 := Hid.mk7 (E7.out.later b8)
      have K8 := Hid.mk7 (K7.out.later b8)
      have G8 := Hid.mk7 (G7.out.trans (b8.mono G7.out.size))
      clear R7 Y7 T7 E7 K7 G7 b8
      have d0 := R8.out.c0
      have d1 := R8.out.c1
      have x0 := Y8.out.c0
      have x1 := Y8.out.c1
      have k0 := K8.out.c0
      have k1 := K8.out.c1
      go_wp2
      go_ret
      exact ⟨rfl, G8.out⟩
    · have t1 : decide ((400 : Int) < base) = false := decide_eq_false (by omega)
      obtain ⟨hki, hks, hkd⟩ := keep11_is (m := base) (by omega)
      obtain ⟨ks, HKE⟩ : ∃ ks, Hid (elG base [] 0 [] = ks) := ⟨_, rfl⟩
      rw [HKE.out] at hki hks hkd
      have HKI := Hid.mk7 hki
      have HKS := Hid.mk7 hks
      have HKD := Hid.mk7 hkd
      have HM : Hid (min (max base 0) 20000 = base) := by show _ = _; omega
      clear hki hks hkd hdom
      go_enter Tryd.func4, Tryd.ntmps4
      go_wp2_with fail
      refine (HK.out).mono ?_
      rintro e w1 ⟨rfl, b1⟩
      have V1 := Hid.mk7 (V0.out.later b1)
      have T1 := Hid.mk7 (T0.out.later b1)
      have G1 := Hid.mk7 (G0.out.trans (b1.mono G0.out.size))
      clear V0 T0 G0 b1
      go_wp2_with fail
      refine (HF.out _ V1.out).mono ?_
      rintro e w2 ⟨rfl, b2⟩
      have V2 := Hid.mk7 (V1.out.later b2)
      have T2 := Hid.mk7 (T1.out.later b2)
      have G2 := Hid.mk7 (G1.out.trans (b2.mono G1.out.size))
      clear V1 T1 G1 b2
      go_wp2_with fail
      refine (build_many base V2.out (HSM.out.mono (by omega)) (by omega) (by omega) tb T2.out HR.out h60).mono ?_
      rintro e w3 ⟨rfl, b3⟩
      have V3 := Hid.mk7 (V2.out.later b3)
      have T3 := Hid.mk7 (T2.out.later b3)
      have G3 := Hid.mk7 (G2.out.trans (b3.mono G2.out.size))
      clear V2 T2 G2 b3
      have GA := Hid.mk7 (below_newE G3.out (.cells #[.int .i64 0, .slice none 0 0] 24))
      have VA := Hid.mk7 (V3.out.alloc (.cells #[.int .i64 0, .slice none 0 0] 24))
      have TA := Hid.mk7 (T3.out.nu (.cells #[.int .i64 0, .slice none 0 0] 24))
      have RA := Hid.mk7 (Rd.new w3 (.int .i64 0) (.slice none 0 0))
      go_wp2_with fail
      refine (HRB.out _ VA.out).mono ?_
      rintro e w4 ⟨hB, b4⟩
      unfold BldR at hB
      rw [HR.out, if_neg (by decide), if_pos h60] at hB
      subst hB
      have GB := Hid.mk7 (below_newE (GA.out.trans (b4.mono GA.out.size)) (.cells #[.int .i64 0, .slice none 0 0] 24))
      have RB := Hid.mk7 ((RA.out.later b4).alloc (.cells #[.int .i64 0, .slice none 0 0] 24))
      have RX := Hid.mk7 (Rd.new w4 (.int .i64 0) (.slice none 0 0))
      have TB := Hid.mk7 ((TA.out.later b4).nu (.cells #[.int .i64 0, .slice none 0 0] 24))
      clear GA VA TA RA b4 V3 T3 G3
      go_wp2_with fail
      refine (keep_v base HM.out HKE.out _).mono ?_
      rintro e w5 ⟨kv, rfl, hK, b5⟩
      obtain ⟨ka, kcap, rfl, _⟩ := id hK
      have G6 := Hid.mk7 (below_newE (GB.out.trans (b5.mono GB.out.size)) (.cells #[.int .i64 base, .slice ka ks.length kcap] 24))
      have R6 := Hid.mk7 ((RB.out.later b5).alloc (.cells #[.int .i64 base, .slice ka ks.length kcap] 24))
      have Y6 := Hid.mk7 ((RX.out.later b5).alloc (.cells #[.int .i64 base, .slice ka ks.length kcap] 24))
      have T6 := Hid.mk7 ((TB.out.later b5).nu (.cells #[.int .i64 base, .slice ka ks.length kcap] 24))
      have E6 := Hid.mk7 (hK.alloc (.cells #[.int .i64 base, .slice ka ks.length kcap] 24))
      have K6 := Hid.mk7 (Rd.new w5 (.int .i64 base) (.slice ka ks.length kcap))
      clear GB RB RX TB b5 hK
      have d0 := R6.out.c0
      have d1 := R6.out.c1
      have x0 := Y6.out.c0
      have x1 := Y6.out.c1
      have k0 := K6.out.c0
      have k1 := K6.out.c1
      go_wp2_with fail
      refine (size_v HKI.out HKS.out E6.out T6.out).mono ?_
      rintro e w7 ⟨rfl, b7⟩
      clear d0 d1 x0 x1 k0 k1
      have R7 := Hid.mk7 (R6.out.later b7)
      have Y7 := Hid.mk7 (Y6.out.later b7)
      have T7 := Hid.mk7 (T6.out.later b7)
      have E7 := Hid.mk7 (E6.out.later b7)
      have K7 := Hid.mk7 (K6.out.later b7)
      have G7 := Hid.mk7 (G6.out.trans (b7.mono G6.out.size))
      clear R6 Y6 T6 E6 K6 G6 b7
      have d0 := R7.out.c0
      have d1 := R7.out.c1
      have x0 := Y7.out.c0
      have x1 := Y7.out.c1
      have k0 := K7.out.c0
      have k1 := K7.out.c1
      go_wp2_with fail
      refine (drops_v HKI.out HKD.out E7.out T7.out).mono ?_
      rintro e w8 ⟨rfl, b8⟩
      clear d0 d1 x0 x1 k0 k1
      have R8 := Hid.mk7 (R7.out.later b8)
      have Y8 := Hid.mk7 (Y7.out.later b8)
      have T8 := Hid.mk7 (T7.out.later b8)
      have E8 := Hid.mk7 (E7.out.later b8)
      have K8 := Hid.mk7 (K7.out.later b8)
      have G8 := Hid.mk7 (G7.out.trans (b8.mono G7.out.size))
      clear R7 Y7 T7 E7 K7 G7 b8
      have d0 := R8.out.c0
      have d1 := R8.out.c1
      have x0 := Y8.out.c0
      have x1 := Y8.out.c1
      have k0 := K8.out.c0
      have k1 := K8.out.c1
      go_wp2
      go_ret
      exact ⟨rfl, G8.out⟩
    · exfalso
      have := (gd_of HR.out).b0
      omega
  · have h60 : (elG base [] 0 l).length ≤ 60 := by omega
    rcases hw3 with h1 | ⟨h0, h1⟩ | h1
    · have t1 : decide ((400 : Int) < base) = false := decide_eq_false (by omega)
      obtain ⟨hki, hks, hkd⟩ := keep11_is (m := 0) (by omega)
      obtain ⟨ks, HKE⟩ : ∃ ks, Hid (elG 0 [] 0 [] = ks) := ⟨_, rfl⟩
      rw [HKE.out] at hki hks hkd
      have HKI := Hid.mk7 hki
      have HKS := Hid.mk7 hks
      have HKD := Hid.mk7 hkd
      have HM : Hid (min (max base 0) 20000 = 0) := by show _ = _; omega
      clear hki hks hkd hdom
      go_enter Tryd.func4, Tryd.ntmps4
      go_wp2_with fail
      refine (HK.out).mono ?_
      rintro e w1 ⟨rfl, b1⟩
      have V1 := Hid.mk7 (V0.out.later b1)
      have T1 := Hid.mk7 (T0.out.later b1)
      have G1 := Hid.mk7 (G0.out.trans (b1.mono G0.out.size))
      clear V0 T0 G0 b1
      go_wp2_with fail
      refine (HF.out _ V1.out).mono ?_
      rintro e w2 ⟨rfl, b2⟩
      have V2 := Hid.mk7 (V1.out.later b2)
      have T2 := Hid.mk7 (T1.out.later b2)
      have G2 := Hid.mk7 (G1.out.trans (b2.mono G1.out.size))
      clear V1 T1 G1 b2
      go_wp2_with fail
      refine (build_good base V2.out (HSM.out.mono (by omega)) (by omega) (by omega) tb T2.out HR.out h60).mono ?_
      rintro e w3 ⟨dv, rfl, hD, b3⟩
      obtain ⟨dva, dvcap, rfl, _⟩ := id hD
      have D3 := Hid.mk7 hD
      clear hD
      have V3 := Hid.mk7 (V2.out.later b3)
      have T3 := Hid.mk7 (T2.out.later b3)
      have G3 := Hid.mk7 (G2.out.trans (b3.mono G2.out.size))
      clear V2 T2 G2 b3
      have GA := Hid.mk7 (below_newE G3.out (.cells #[.int .i64 base, .slice dva (elG base [] 0 l).length dvcap] 24))
      have VA := Hid.mk7 (V3.out.alloc (.cells #[.int .i64 base, .slice dva (elG base [] 0 l).length dvcap] 24))
      have TA := Hid.mk7 (T3.out.nu (.cells #[.int .i64 base, .slice dva (elG base [] 0 l).length dvcap] 24))
      have RA := Hid.mk7 (Rd.new w3 (.int .i64 base) (.slice dva (elG base [] 0 l).length dvcap))
      have DA := Hid.mk7 (D3.out.alloc (.cells #[.int .i64 base, .slice dva (elG base [] 0 l).length dvcap] 24))
      go_wp2_with fail
      refine (HRB.out _ VA.out).mono ?_
      rintro e w4 ⟨hB, b4⟩
      unfold BldR at hB
      rw [HR.out, if_neg (by decide), if_neg (by omega)] at hB
      obtain ⟨xv, rfl, hX⟩ := hB
      obtain ⟨xa, xcap, rfl, _⟩ := id hX
      have XB := Hid.mk7 (hX.alloc (.cells #[.int .i64 base, .slice xa (elG base [] 0 l).length xcap] 24))
      clear hX
      have GB := Hid.mk7 (below_newE (GA.out.trans (b4.mono GA.out.size)) (.cells #[.int .i64 base, .slice xa (elG base [] 0 l).length xcap] 24))
      have RB := Hid.mk7 ((RA.out.later b4).alloc (.cells #[.int .i64 base, .slice xa (elG base [] 0 l).length xcap] 24))
      have RX := Hid.mk7 (Rd.new w4 (.int .i64 base) (.slice xa (elG base [] 0 l).length xcap))
      have TB := Hid.mk7 ((TA.out.later b4).nu (.cells #[.int .i64 base, .slice xa (elG base [] 0 l).length xcap] 24))
      have DB := Hid.mk7 ((DA.out.later b4).alloc (.cells #[.int .i64 base, .slice xa (elG base [] 0 l).length xcap] 24))
      clear GA VA TA RA b4 V3 T3 G3 DA D3
      go_wp2_with fail
      refine (keep_v base HM.out HKE.out _).mono ?_
      rintro e w5 ⟨kv, rfl, hK, b5⟩
      obtain ⟨ka, kcap, rfl, _⟩ := id hK
      have G6 := Hid.mk7 (below_newE (GB.out.trans (b5.mono GB.out.size)) (.cells #[.int .i64 0, .slice ka ks.length kcap] 24))
      have R6 := Hid.mk7 ((RB.out.later b5).alloc (.cells #[.int .i64 0, .slice ka ks.length kcap] 24))
      have Y6 := Hid.mk7 ((RX.out.later b5).alloc (.cells #[.int .i64 0, .slice ka ks.length kcap] 24))
      have T6 := Hid.mk7 ((TB.out.later b5).nu (.cells #[.int .i64 0, .slice ka ks.length kcap] 24))
      have E6 := Hid.mk7 (hK.alloc (.cells #[.int .i64 0, .slice ka ks.length kcap] 24))
      have K6 := Hid.mk7 (Rd.new w5 (.int .i64 0) (.slice ka ks.length kcap))
      have D6 := Hid.mk7 ((DB.out.later b5).alloc (.cells #[.int .i64 0, .slice ka ks.length kcap] 24))
      have X6 := Hid.mk7 ((XB.out.later b5).alloc (.cells #[.int .i64 0, .slice ka ks.length kcap] 24))
      clear GB RB RX TB b5 hK DB XB
      have d0 := R6.out.c0
      have d1 := R6.out.c1
      have x0 := Y6.out.c0
      have x1 := Y6.out.c1
      have k0 := K6.out.c0
      have k1 := K6.out.c1
      go_wp2_with fail
      refine (rsame_self base D6.out X6.out h60).mono ?_
      rintro e w7 ⟨rfl, b7⟩
      clear d0 d1 x0 x1 k0 k1
      have R7 := Hid.mk7 (R6.out.later b7)
      have Y7 := Hid.mk7 (Y6.out.later b7)
      have T7 := Hid.mk7 (T6.out.later b7)
      have E7 := Hid.mk7 (E6.out.later b7)
      have K7 := Hid.mk7 (K6.out.later b7)
      have D7 := Hid.mk7 (D6.out.later b7)
      have X7 := Hid.mk7 (X6.out.later b7)
      have G7 := Hid.mk7 (G6.out.trans (b7.mono G6.out.size))
      clear R6 Y6 T6 E6 K6 D6 X6 G6 b7
      have d0 := R7.out.c0
      have d1 := R7.out.c1
      have x0 := Y7.out.c0
      have x1 := Y7.out.c1
      have k0 := K7.out.c0
      have k1 := K7.out.c1
      go_wp2_with fail
      refine (ris_yes (isB_elG HR.out h60) D7.out).mono ?_
      rintro e w8 ⟨rfl, b8⟩
      clear d0 d1 x0 x1 k0 k1
      have R8 := Hid.mk7 (R7.out.later b8)
      have Y8 := Hid.mk7 (Y7.out.later b8)
      have T8 := Hid.mk7 (T7.out.later b8)
      have E8 := Hid.mk7 (E7.out.later b8)
      have K8 := Hid.mk7 (K7.out.later b8)
      have D8 := Hid.mk7 (D7.out.later b8)
      have X8 := Hid.mk7 (X7.out.later b8)
      have G8 := Hid.mk7 (G7.out.trans (b8.mono G7.out.size))
      clear R7 Y7 T7 E7 K7 D7 X7 G7 b8
      have d0 := R8.out.c0
      have d1 := R8.out.c1
      have x0 := Y8.out.c0
      have x1 := Y8.out.c1
      have k0 := K8.out.c0
      have k1 := K8.out.c1
      go_wp2_with fail
      refine (size_v HKI.out HKS.out E8.out T8.out).mono ?_
      rintro e w9 ⟨rfl, b9⟩
      clear d0 d1 x0 x1 k0 k1
      have R9 := Hid.mk7 (R8.out.later b9)
      have Y9 := Hid.mk7 (Y8.out.later b9)
      have T9 := Hid.mk7 (T8.out.later b9)
      have E9 := Hid.mk7 (E8.out.later b9)
      have K9 := Hid.mk7 (K8.out.later b9)
      have D9 := Hid.mk7 (D8.out.later b9)
      have X9 := Hid.mk7 (X8.out.later b9)
      have G9 := Hid.mk7 (G8.out.trans (b9.mono G8.out.size))
      clear R8 Y8 T8 E8 K8 D8 X8 G8 b9
      have d0 := R9.out.c0
      have d1 := R9.out.c1
      have x0 := Y9.out.c0
      have x1 := Y9.out.c1
      have k0 := K9.out.c0
      have k1 := K9.out.c1
      go_wp2_with fail
      refine (drops_v HKI.out HKD.out E9.out T9.out).mono ?_
      rintro e w10 ⟨rfl, b10⟩
      clear d0 d1 x0 x1 k0 k1
      have R10 := Hid.mk7 (R9.out.later b10)
      have Y10 := Hid.mk7 (Y9.out.later b10)
      have T10 := Hid.mk7 (T9.out.later b10)
      have E10 := Hid.mk7 (E9.out.later b10)
      have K10 := Hid.mk7 (K9.out.later b10)
      have D10 := Hid.mk7 (D9.out.later b10)
      have X10 := Hid.mk7 (X9.out.later b10)
      have G10 := Hid.mk7 (G9.out.trans (b10.mono G9.out.size))
      clear R9 Y9 T9 E9 K9 D9 X9 G9 b10
      have d0 := R10.out.c0
      have d1 := R10.out.c1
      have x0 := Y10.out.c0
      have x1 := Y10.out.c1
      have k0 := K10.out.c0
      have k1 := K10.out.c1
      go_wp2
      go_ret
      exact ⟨rfl, G10.out⟩
    · have t1 : decide ((400 : Int) < base) = false := decide_eq_false (by omega)
      obtain ⟨hki, hks, hkd⟩ := keep11_is (m := base) (by omega)
      obtain ⟨ks, HKE⟩ : ∃ ks, Hid (elG base [] 0 [] = ks) := ⟨_, rfl⟩
      rw [HKE.out] at hki hks hkd
      have HKI := Hid.mk7 hki
      have HKS := Hid.mk7 hks
      have HKD := Hid.mk7 hkd
      have HM : Hid (min (max base 0) 20000 = base) := by show _ = _; omega
      clear hki hks hkd hdom
      go_enter Tryd.func4, Tryd.ntmps4
      go_wp2_with fail
      refine (HK.out).mono ?_
      rintro e w1 ⟨rfl, b1⟩
      have V1 := Hid.mk7 (V0.out.later b1)
      have T1 := Hid.mk7 (T0.out.later b1)
      have G1 := Hid.mk7 (G0.out.trans (b1.mono G0.out.size))
      clear V0 T0 G0 b1
      go_wp2_with fail
      refine (HF.out _ V1.out).mono ?_
      rintro e w2 ⟨rfl, b2⟩
      have V2 := Hid.mk7 (V1.out.later b2)
      have T2 := Hid.mk7 (T1.out.later b2)
      have G2 := Hid.mk7 (G1.out.trans (b2.mono G1.out.size))
      clear V1 T1 G1 b2
      go_wp2_with fail
      refine (build_good base V2.out (HSM.out.mono (by omega)) (by omega) (by omega) tb T2.out HR.out h60).mono ?_
      rintro e w3 ⟨dv, rfl, hD, b3⟩
      obtain ⟨dva, dvcap, rfl, _⟩ := id hD
      have D3 := Hid.mk7 hD
      clear hD
      have V3 := Hid.mk7 (V2.out.later b3)
      have T3 := Hid.mk7 (T2.out.later b3)
      have G3 := Hid.mk7 (G2.out.trans (b3.mono G2.out.size))
      clear V2 T2 G2 b3
      have GA := Hid.mk7 (below_newE G3.out (.cells #[.int .i64 base, .slice dva (elG base [] 0 l).length dvcap] 24))
      have VA := Hid.mk7 (V3.out.alloc (.cells #[.int .i64 base, .slice dva (elG base [] 0 l).length dvcap] 24))
      have TA := Hid.mk7 (T3.out.nu (.cells #[.int .i64 base, .slice dva (elG base [] 0 l).length dvcap] 24))
      have RA := Hid.mk7 (Rd.new w3 (.int .i64 base) (.slice dva (elG base [] 0 l).length dvcap))
      have DA := Hid.mk7 (D3.out.alloc (.cells #[.int .i64 base, .slice dva (elG base [] 0 l).length dvcap] 24))
      go_wp2_with fail
      refine (HRB.out _ VA.out).mono ?_
      rintro e w4 ⟨hB, b4⟩
      unfold BldR at hB
      rw [HR.out, if_neg (by decide), if_neg (by omega)] at hB
      obtain ⟨xv, rfl, hX⟩ := hB
      obtain ⟨xa, xcap, rfl, _⟩ := id hX
      have XB := Hid.mk7 (hX.alloc (.cells #[.int .i64 base, .slice xa (elG base [] 0 l).length xcap] 24))
      clear hX
      have GB := Hid.mk7 (below_newE (GA.out.trans (b4.mono GA.out.size)) (.cells #[.int .i64 base, .slice xa (elG base [] 0 l).length xcap] 24))
      have RB := Hid.mk7 ((RA.out.later b4).alloc (.cells #[.int .i64 base, .slice xa (elG base [] 0 l).length xcap] 24))
      have RX := Hid.mk7 (Rd.new w4 (.int .i64 base) (.slice xa (elG base [] 0 l).length xcap))
      have TB := Hid.mk7 ((TA.out.later b4).nu (.cells #[.int .i64 base, .slice xa (elG base [] 0 l).length xcap] 24))
      have DB := Hid.mk7 ((DA.out.later b4).alloc (.cells #[.int .i64 base, .slice xa (elG base [] 0 l).length xcap] 24))
      clear GA VA TA RA b4 V3 T3 G3 DA D3
      go_wp2_with fail
      refine (keep_v base HM.out HKE.out _).mono ?_
      rintro e w5 ⟨kv, rfl, hK, b5⟩
      obtain ⟨ka, kcap, rfl, _⟩ := id hK
      have G6 := Hid.mk7 (below_newE (GB.out.trans (b5.mono GB.out.size)) (.cells #[.int .i64 base, .slice ka ks.length kcap] 24))
      have R6 := Hid.mk7 ((RB.out.later b5).alloc (.cells #[.int .i64 base, .slice ka ks.length kcap] 24))
      have Y6 := Hid.mk7 ((RX.out.later b5).alloc (.cells #[.int .i64 base, .slice ka ks.length kcap] 24))
      have T6 := Hid.mk7 ((TB.out.later b5).nu (.cells #[.int .i64 base, .slice ka ks.length kcap] 24))
      have E6 := Hid.mk7 (hK.alloc (.cells #[.int .i64 base, .slice ka ks.length kcap] 24))
      have K6 := Hid.mk7 (Rd.new w5 (.int .i64 base) (.slice ka ks.length kcap))
      have D6 := Hid.mk7 ((DB.out.later b5).alloc (.cells #[.int .i64 base, .slice ka ks.length kcap] 24))
      have X6 := Hid.mk7 ((XB.out.later b5).alloc (.cells #[.int .i64 base, .slice ka ks.length kcap] 24))
      clear GB RB RX TB b5 hK DB XB
      have d0 := R6.out.c0
      have d1 := R6.out.c1
      have x0 := Y6.out.c0
      have x1 := Y6.out.c1
      have k0 := K6.out.c0
      have k1 := K6.out.c1
      go_wp2_with fail
      refine (rsame_self base D6.out X6.out h60).mono ?_
      rintro e w7 ⟨rfl, b7⟩
      clear d0 d1 x0 x1 k0 k1
      have R7 := Hid.mk7 (R6.out.later b7)
      have Y7 := Hid.mk7 (Y6.out.later b7)
      have T7 := Hid.mk7 (T6.out.later b7)
      have E7 := Hid.mk7 (E6.out.later b7)
      have K7 := Hid.mk7 (K6.out.later b7)
      have D7 := Hid.mk7 (D6.out.later b7)
      have X7 := Hid.mk7 (X6.out.later b7)
      have G7 := Hid.mk7 (G6.out.trans (b7.mono G6.out.size))
      clear R6 Y6 T6 E6 K6 D6 X6 G6 b7
      have d0 := R7.out.c0
      have d1 := R7.out.c1
      have x0 := Y7.out.c0
      have x1 := Y7.out.c1
      have k0 := K7.out.c0
      have k1 := K7.out.c1
      go_wp2_with fail
      refine (ris_yes (isB_elG HR.out h60) D7.out).mono ?_
      rintro e w8 ⟨rfl, b8⟩
      clear d0 d1 x0 x1 k0 k1
      have R8 := Hid.mk7 (R7.out.later b8)
      have Y8 := Hid.mk7 (Y7.out.later b8)
      have T8 := Hid.mk7 (T7.out.later b8)
      have E8 := Hid.mk7 (E7.out.later b8)
      have K8 := Hid.mk7 (K7.out.later b8)
      have D8 := Hid.mk7 (D7.out.later b8)
      have X8 := Hid.mk7 (X7.out.later b8)
      have G8 := Hid.mk7 (G7.out.trans (b8.mono G7.out.size))
      clear R7 Y7 T7 E7 K7 D7 X7 G7 b8
      have d0 := R8.out.c0
      have d1 := R8.out.c1
      have x0 := Y8.out.c0
      have x1 := Y8.out.c1
      have k0 := K8.out.c0
      have k1 := K8.out.c1
      go_wp2_with fail
      refine (size_v HKI.out HKS.out E8.out T8.out).mono ?_
      rintro e w9 ⟨rfl, b9⟩
      clear d0 d1 x0 x1 k0 k1
      have R9 := Hid.mk7 (R8.out.later b9)
      have Y9 := Hid.mk7 (Y8.out.later b9)
      have T9 := Hid.mk7 (T8.out.later b9)
      have E9 := Hid.mk7 (E8.out.later b9)
      have K9 := Hid.mk7 (K8.out.later b9)
      have D9 := Hid.mk7 (D8.out.later b9)
      have X9 := Hid.mk7 (X8.out.later b9)
      have G9 := Hid.mk7 (G8.out.trans (b9.mono G8.out.size))
      clear R8 Y8 T8 E8 K8 D8 X8 G8 b9
      have d0 := R9.out.c0
      have d1 := R9.out.c1
      have x0 := Y9.out.c0
      have x1 := Y9.out.c1
      have k0 := K9.out.c0
      have k1 := K9.out.c1
      go_wp2_with fail
      refine (drops_v HKI.out HKD.out E9.out T9.out).mono ?_
      rintro e w10 ⟨rfl, b10⟩
      clear d0 d1 x0 x1 k0 k1
      have R10 := Hid.mk7 (R9.out.later b10)
      have Y10 := Hid.mk7 (Y9.out.later b10)
      have T10 := Hid.mk7 (T9.out.later b10)
      have E10 := Hid.mk7 (E9.out.later b10)
      have K10 := Hid.mk7 (K9.out.later b10)
      have D10 := Hid.mk7 (D9.out.later b10)
      have X10 := Hid.mk7 (X9.out.later b10)
      have G10 := Hid.mk7 (G9.out.trans (b10.mono G9.out.size))
      clear R9 Y9 T9 E9 K9 D9 X9 G9 b10
      have d0 := R10.out.c0
      have d1 := R10.out.c1
      have x0 := Y10.out.c0
      have x1 := Y10.out.c1
      have k0 := K10.out.c0
      have k1 := K10.out.c1
      go_wp2
      go_ret
      exact ⟨rfl, G10.out⟩
    · exfalso
      have := (gd_of HR.out).b0
      omega
end Go.Proofs.YtpfkidcaolfcoaaDoor
