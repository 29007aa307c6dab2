/- DeltaTells walked. -/
import Derived.Test.YtpfkidcaolfcoaaDoorDelKnown
import Derived.Test.YtpfkidcaolfcoaaDoorDelRefIs
import Derived.Test.YtpfkidcaolfcoaaDoorDelRefSame
import Derived.Test.YtpfkidcaolfcoaaDoorDelRefApp
namespace Go.Proofs.YtpfkidcaolfcoaaDoor
open Go.RowKit Go.Sort Go.Lib
set_option linter.unusedSimpArgs false
set_option linter.unusedVariables false

/-- How many are the base's. -/
def kpt (cs : List Ce) : Nat := (cs.filter fun c => decide (0 ≤ c.1)).length
theorem kpt_append (a b : List Ce) : kpt (a ++ b) = kpt a + kpt b := by simp [kpt]
theorem kpt_le (a : List Ce) : kpt a ≤ a.length := List.length_filter_le _ _
theorem kpt_own (T : List UInt8) : kpt (ownT T) = 0 := by simp [kpt, ownT]
theorem kpt_rng {f t : Int} (h : 0 ≤ f) : kpt (rng f t) = (t - f).toNat := by
  unfold kpt
  rw [List.filter_eq_self.2, rng_len]
  intro c hc
  unfold rng at hc
  obtain ⟨i, _, rfl⟩ := List.mem_map.1 hc
  simp; omega
theorem kpt_take {cs : List Ce} {k : Nat} {c : Ce} (hr : cs[k]? = some c) : kpt (cs.take (k + 1)) = kpt (cs.take k) + if 0 ≤ c.1 then 1 else 0 := by
  rw [take_snoc7 hr, kpt_append]
  unfold kpt
  by_cases h : 0 ≤ c.1 <;> simp [h]
theorem kpt_cel : ∀ (es : List El), Bd es → (kpt (cel es) : Int) = cpS es
  | [], _ => rfl
  | (f, t, T) :: es, h => by
    have ih := kpt_cel es (fun e he => h e (by simp [he]))
    have h1 := h (f, t, T) (by simp)
    simp only at h1
    rw [cel_cons, kpt_append]
    unfold ce1
    rw [kpt_append, kpt_own, kpt_rng h1.1]
    simp only [cpS, List.map_cons, List.sum_cons] at *
    omega
theorem cel_in {es : List El} {n : Nat} (h : Inn es n) : ∀ c ∈ cel es, 0 ≤ c.1 → c.1 < n := by
  intro c hc h0
  obtain ⟨⟨f, t, T⟩, he, hc⟩ := List.mem_flatMap.1 hc
  have h1 := h _ he
  simp only at h1
  rcases List.mem_append.1 hc with hc | hc
  · obtain ⟨b, _, rfl⟩ := List.mem_map.1 hc
    simp at h0
  · unfold rng at hc
    obtain ⟨i, hi, rfl⟩ := List.mem_map.1 hc
    have := List.mem_range.1 hi
    simp only at *
    omega
theorem fewD_sm {n : Int} {l : List El} (h : fewD n l = true) : Sm l 200 ∧ l.length ≤ 70 ∧ n ≤ 400 := by
  unfold fewD at h
  rw [Bool.and_eq_true, Bool.and_eq_true, decide_eq_true_eq, decide_eq_true_eq] at h
  exact ⟨fun e he => of_decide_eq_true (List.all_eq_true.1 h.1 e he), h.2.2, h.2.1⟩
set_option maxHeartbeats 16000000 in
set_option maxRecDepth 100000 in
theorem tells11_any (n n2 : Int) (s : ByteArray) {w : World} {v u : Value} {es qs : List El} (hs : s.size ≤ maxLen) (hl : es.length ≤ maxLen) (hsm : Sm es maxLen) (hl2 : qs.length ≤ maxLen) (hsm2 : Sm qs maxLen) (tb : Nat × Nat) (hT : Tab w tb) (h : ElAt w v es) (h2 : ElAt w u qs) :
    Calls Tryd.prog 3 #[.agg #[.int .i64 n, v], .agg #[.int .i64 n2, u], .string s] w fun e w' => e = .returned (.bool true) ∧ RowKit.Below w.heap.size w w' := by
  obtain ⟨va, vcap, rfl, _⟩ := id h
  obtain ⟨ua, ucap, rfl, _⟩ := id h2
  have G0 := Hid.mk7 (below_newE (below_newE (RowKit.Below.refl w.heap.size w) (.cells #[.int .i64 n, .slice va es.length vcap] 24)) (.cells #[.int .i64 n2, .slice ua qs.length ucap] 24))
  have E0 := Hid.mk7 (h.later G0.out)
  have O0 := Hid.mk7 (h2.later G0.out)
  have RD0 := Hid.mk7 ((Rd.new w (.int .i64 n) (.slice va es.length vcap)).alloc (.cells #[.int .i64 n2, .slice ua qs.length ucap] 24))
  have RO0 : Hid (Rd ((w.alloc (.cells #[.int .i64 n, .slice va es.length vcap] 24)).alloc (.cells #[.int .i64 n2, .slice ua qs.length ucap] 24)) (w.heap.size + 1) (.int .i64 n2) (.slice ua qs.length ucap)) := Rd.new' (by simp) _ _
  have TT0 := Hid.mk7 (hT.later G0.out)
  have HK := Hid.mk7 (known11_any _ tb TT0.out)
  have HFA := Hid.mk7 (fun W (hE : ElAt W (.slice va es.length vcap) es) => fewD_any n hE hl)
  have HFB := Hid.mk7 (fun W (hE : ElAt W (.slice ua qs.length ucap) qs) => fewD_any n2 hE hl2)
  clear h h2 hT
  by_cases hfa : fewD n es = true
  case neg =>
    have hfa2 : fewD n es = false := by simpa using hfa
    rw [hfa2] at HFA
    go_enter Tryd.func3, Tryd.ntmps3
    have d0 := RD0.out.c0
    have d1 := RD0.out.c1
    have x0 := RO0.out.c0
    have x1 := RO0.out.c1
    go_wp2_with fail
    refine (HK.out).mono ?_
    rintro e w1 ⟨rfl, b1⟩
    clear d0 d1 x0 x1
    have E1 := Hid.mk7 (E0.out.later b1)
    have O1 := Hid.mk7 (O0.out.later b1)
    have RD1 := Hid.mk7 (RD0.out.later b1)
    have RO1 := Hid.mk7 (RO0.out.later b1)
    have TT1 := Hid.mk7 (TT0.out.later b1)
    have G1 := Hid.mk7 (G0.out.trans (b1.mono G0.out.size))
    have d0 := RD1.out.c0
    have d1 := RD1.out.c1
    have x0 := RO1.out.c0
    have x1 := RO1.out.c1
    clear E0 O0 RD0 RO0 TT0 G0 b1
    go_wp2_with fail
    refine (HFA.out _ E1.out).mono ?_
    rintro e w2 ⟨rfl, b2⟩
    clear d0 d1 x0 x1
    have E2 := Hid.mk7 (E1.out.later b2)
    have O2 := Hid.mk7 (O1.out.later b2)
    have RD2 := Hid.mk7 (RD1.out.later b2)
    have RO2 := Hid.mk7 (RO1.out.later b2)
    have TT2 := Hid.mk7 (TT1.out.later b2)
    have G2 := Hid.mk7 (G1.out.trans (b2.mono G1.out.size))
    have d0 := RD2.out.c0
    have d1 := RD2.out.c1
    have x0 := RO2.out.c0
    have x1 := RO2.out.c1
    clear E1 O1 RD1 RO1 TT1 G1 b2
    go_wp2
    go_ret
    exact ⟨rfl, G2.out⟩
  rw [hfa] at HFA
  by_cases hfb : fewD n2 qs = true
  case neg =>
    have hfb2 : fewD n2 qs = false := by simpa using hfb
    rw [hfb2] at HFB
    go_enter Tryd.func3, Tryd.ntmps3
    have d0 := RD0.out.c0
    have d1 := RD0.out.c1
    have x0 := RO0.out.c0
    have x1 := RO0.out.c1
    go_wp2_with fail
    refine (HK.out).mono ?_
    rintro e w1 ⟨rfl, b1⟩
    clear d0 d1 x0 x1
    have E1 := Hid.mk7 (E0.out.later b1)
    have O1 := Hid.mk7 (O0.out.later b1)
    have RD1 := Hid.mk7 (RD0.out.later b1)
    have RO1 := Hid.mk7 (RO0.out.later b1)
    have TT1 := Hid.mk7 (TT0.out.later b1)
    have G1 := Hid.mk7 (G0.out.trans (b1.mono G0.out.size))
    have d0 := RD1.out.c0
    have d1 := RD1.out.c1
    have x0 := RO1.out.c0
    have x1 := RO1.out.c1
    clear E0 O0 RD0 RO0 TT0 G0 b1
    go_wp2_with fail
    refine (HFA.out _ E1.out).mono ?_
    rintro e w2 ⟨rfl, b2⟩
    clear d0 d1 x0 x1
    have E2 := Hid.mk7 (E1.out.later b2)
    have O2 := Hid.mk7 (O1.out.later b2)
    have RD2 := Hid.mk7 (RD1.out.later b2)
    have RO2 := Hid.mk7 (RO1.out.later b2)
    have TT2 := Hid.mk7 (TT1.out.later b2)
    have G2 := Hid.mk7 (G1.out.trans (b2.mono G1.out.size))
    have d0 := RD2.out.c0
    have d1 := RD2.out.c1
    have x0 := RO2.out.c0
    have x1 := RO2.out.c1
    clear E1 O1 RD1 RO1 TT1 G1 b2
    go_wp2_with fail
    refine (HFB.out _ O2.out).mono ?_
    rintro e w3 ⟨rfl, b3⟩
    clear d0 d1 x0 x1
    have E3 := Hid.mk7 (E2.out.later b3)
    have O3 := Hid.mk7 (O2.out.later b3)
    have RD3 := Hid.mk7 (RD2.out.later b3)
    have RO3 := Hid.mk7 (RO2.out.later b3)
    have TT3 := Hid.mk7 (TT2.out.later b3)
    have G3 := Hid.mk7 (G2.out.trans (b3.mono G2.out.size))
    have d0 := RD3.out.c0
    have d1 := RD3.out.c1
    have x0 := RO3.out.c0
    have x1 := RO3.out.c1
    clear E2 O2 RD2 RO2 TT2 G2 b3
    go_wp2
    go_ret
    exact ⟨rfl, G3.out⟩
  rw [hfb] at HFB
  by_cases hlong : 500 < s.size
  · have t1 : decide ((500 : Int) < (s.size : Int)) = true := decide_eq_true (by omega)
    go_enter Tryd.func3, Tryd.ntmps3
    have d0 := RD0.out.c0
    have d1 := RD0.out.c1
    have x0 := RO0.out.c0
    have x1 := RO0.out.c1
    go_wp2_with fail
    refine (HK.out).mono ?_
    rintro e w1 ⟨rfl, b1⟩
    clear d0 d1 x0 x1
    have E1 := Hid.mk7 (E0.out.later b1)
    have O1 := Hid.mk7 (O0.out.later b1)
    have RD1 := Hid.mk7 (RD0.out.later b1)
    have RO1 := Hid.mk7 (RO0.out.later b1)
    have TT1 := Hid.mk7 (TT0.out.later b1)
    have G1 := Hid.mk7 (G0.out.trans (b1.mono G0.out.size))
    have d0 := RD1.out.c0
    have d1 := RD1.out.c1
    have x0 := RO1.out.c0
    have x1 := RO1.out.c1
    clear E0 O0 RD0 RO0 TT0 G0 b1
    go_wp2_with fail
    refine (HFA.out _ E1.out).mono ?_
    rintro e w2 ⟨rfl, b2⟩
    clear d0 d1 x0 x1
    have E2 := Hid.mk7 (E1.out.later b2)
    have O2 := Hid.mk7 (O1.out.later b2)
    have RD2 := Hid.mk7 (RD1.out.later b2)
    have RO2 := Hid.mk7 (RO1.out.later b2)
    have TT2 := Hid.mk7 (TT1.out.later b2)
    have G2 := Hid.mk7 (G1.out.trans (b2.mono G1.out.size))
    have d0 := RD2.out.c0
    have d1 := RD2.out.c1
    have x0 := RO2.out.c0
    have x1 := RO2.out.c1
    clear E1 O1 RD1 RO1 TT1 G1 b2
    go_wp2_with fail
    refine (HFB.out _ O2.out).mono ?_
    rintro e w3 ⟨rfl, b3⟩
    clear d0 d1 x0 x1
    have E3 := Hid.mk7 (E2.out.later b3)
    have O3 := Hid.mk7 (O2.out.later b3)
    have RD3 := Hid.mk7 (RD2.out.later b3)
    have RO3 := Hid.mk7 (RO2.out.later b3)
    have TT3 := Hid.mk7 (TT2.out.later b3)
    have G3 := Hid.mk7 (G2.out.trans (b3.mono G2.out.size))
    have d0 := RD3.out.c0
    have d1 := RD3.out.c1
    have x0 := RO3.out.c0
    have x1 := RO3.out.c1
    clear E2 O2 RD2 RO2 TT2 G2 b3
    go_wp2
    go_ret
    exact ⟨rfl, G3.out⟩
  have t1 : decide ((500 : Int) < (s.size : Int)) = false := decide_eq_false (by omega)
  have hs5 : s.size ≤ 500 := by omega
  obtain ⟨hA1, hA2, hA3⟩ := fewD_sm hfa
  obtain ⟨hB1, hB2, hB3⟩ := fewD_sm hfb
  have HRI := Hid.mk7 (fun W (hE : ElAt W (.slice va es.length vcap) es) => ris_any n hE hsm)
  obtain ⟨sm, HSM⟩ : ∃ sm, Hid (decide (n = n2 ∧ es = qs) = sm) := ⟨_, rfl⟩
  have dsm : (sm != sm) = false := by cases sm <;> rfl
  have HRS := Hid.mk7 (fun W (hE : ElAt W (.slice va es.length vcap) es) (hO : ElAt W (.slice ua qs.length ucap) qs) => rsame_any n n2 hE hO (by omega))
  rw [HSM.out] at HRS
  have HSA := Hid.mk7 (hA1.mono (show 200 ≤ 20000 by omega))
  clear hfa hfb hlong hsm hsm2 hl hl2 hs hA1 hB1 hB2 hB3
  by_cases hib : isB n es = true
  case neg =>
    have hib2 : isB n es = false := by simpa using hib
    rw [hib2] at HRI
    have HIB := Hid.mk7 hib2
    clear hib hib2
    go_enter Tryd.func3, Tryd.ntmps3
    have d0 := RD0.out.c0
    have d1 := RD0.out.c1
    have x0 := RO0.out.c0
    have x1 := RO0.out.c1
    go_wp2_with fail
    refine (HK.out).mono ?_
    rintro e w1 ⟨rfl, b1⟩
    clear d0 d1 x0 x1
    have E1 := Hid.mk7 (E0.out.later b1)
    have O1 := Hid.mk7 (O0.out.later b1)
    have RD1 := Hid.mk7 (RD0.out.later b1)
    have RO1 := Hid.mk7 (RO0.out.later b1)
    have TT1 := Hid.mk7 (TT0.out.later b1)
    have G1 := Hid.mk7 (G0.out.trans (b1.mono G0.out.size))
    have d0 := RD1.out.c0
    have d1 := RD1.out.c1
    have x0 := RO1.out.c0
    have x1 := RO1.out.c1
    clear E0 O0 RD0 RO0 TT0 G0 b1
    go_wp2_with fail
    refine (HFA.out _ E1.out).mono ?_
    rintro e w2 ⟨rfl, b2⟩
    clear d0 d1 x0 x1
    have E2 := Hid.mk7 (E1.out.later b2)
    have O2 := Hid.mk7 (O1.out.later b2)
    have RD2 := Hid.mk7 (RD1.out.later b2)
    have RO2 := Hid.mk7 (RO1.out.later b2)
    have TT2 := Hid.mk7 (TT1.out.later b2)
    have G2 := Hid.mk7 (G1.out.trans (b2.mono G1.out.size))
    have d0 := RD2.out.c0
    have d1 := RD2.out.c1
    have x0 := RO2.out.c0
    have x1 := RO2.out.c1
    clear E1 O1 RD1 RO1 TT1 G1 b2
    go_wp2_with fail
    refine (HFB.out _ O2.out).mono ?_
    rintro e w3 ⟨rfl, b3⟩
    clear d0 d1 x0 x1
    have E3 := Hid.mk7 (E2.out.later b3)
    have O3 := Hid.mk7 (O2.out.later b3)
    have RD3 := Hid.mk7 (RD2.out.later b3)
    have RO3 := Hid.mk7 (RO2.out.later b3)
    have TT3 := Hid.mk7 (TT2.out.later b3)
    have G3 := Hid.mk7 (G2.out.trans (b3.mono G2.out.size))
    have d0 := RD3.out.c0
    have d1 := RD3.out.c1
    have x0 := RO3.out.c0
    have x1 := RO3.out.c1
    clear E2 O2 RD2 RO2 TT2 G2 b3
    go_wp2_with fail
    refine (HRI.out _ E3.out).mono ?_
    rintro e w4 ⟨rfl, b4⟩
    clear d0 d1 x0 x1
    have E4 := Hid.mk7 (E3.out.later b4)
    have O4 := Hid.mk7 (O3.out.later b4)
    have RD4 := Hid.mk7 (RD3.out.later b4)
    have RO4 := Hid.mk7 (RO3.out.later b4)
    have TT4 := Hid.mk7 (TT3.out.later b4)
    have G4 := Hid.mk7 (G3.out.trans (b4.mono G3.out.size))
    have d0 := RD4.out.c0
    have d1 := RD4.out.c1
    have x0 := RO4.out.c0
    have x1 := RO4.out.c1
    clear E3 O3 RD3 RO3 TT3 G3 b4
    go_wp2_with fail
    refine (apply_fv HIB.out HSA.out E4.out TT4.out).mono ?_
    rintro e w5 ⟨rfl, b5⟩
    clear d0 d1 x0 x1
    have E5 := Hid.mk7 (E4.out.later b5)
    have O5 := Hid.mk7 (O4.out.later b5)
    have RD5 := Hid.mk7 (RD4.out.later b5)
    have RO5 := Hid.mk7 (RO4.out.later b5)
    have TT5 := Hid.mk7 (TT4.out.later b5)
    have G5 := Hid.mk7 (G4.out.trans (b5.mono G4.out.size))
    have d0 := RD5.out.c0
    have d1 := RD5.out.c1
    have x0 := RO5.out.c0
    have x1 := RO5.out.c1
    clear E4 O4 RD4 RO4 TT4 G4 b5
    clear d0 d1 x0 x1
    have CI := Hid.mk7 (fun d os => Calls.regrown_of (is_v HIB.out HSA.out (E5.out.later (below_regrown w5 d os)) (TT5.out.later (below_regrown w5 d os))))
    have CS := Hid.mk7 (fun d os => Calls.regrown_of (same_v HSM.out (by omega) (E5.out.later (below_regrown w5 d os)) (O5.out.later (below_regrown w5 d os))))
    have CR := Hid.mk7 (fun d os => Calls.regrown_of (HRS.out _ (E5.out.later (below_regrown w5 d os)) (O5.out.later (below_regrown w5 d os))))
    have CD := Hid.mk7 (fun d os => Calls.regrown_of (same_v (base := n) (b := n) (es := es) (qs := es) (t := true) (decide_eq_true ⟨rfl, rfl⟩) (by omega) (E5.out.later (below_regrown w5 d os)) (E5.out.later (below_regrown w5 d os))))
    have z0 := cell_regrown RD5.out.c0
    have z1 := cell_regrown RD5.out.c1
    have y0 := cell_regrown RO5.out.c0
    have y1 := cell_regrown RO5.out.c1
    go_wp2
    refine wp_region_quiet_below (by kernel_rfl) (by kernel_rfl) ?_
    repeat (go_big_quiet_step (first | (go_at_call 13; exact CI.out _ _) | (go_at_call 15; exact CR.out _ _) | (go_at_call_of 14 (Value.agg #[Value.int .i64 n2, Value.slice ua qs.length ucap]); exact CS.out _ _) | (go_at_call 14; exact CD.out _ _)))
    refine wpQuiet_nil ?_
    intro _ hw'
    obtain ⟨⟨dq, osq⟩, hw''⟩ := hw'
    subst hw''
    have b6 := below_regrown w5 dq osq
    clear z0 z1 y0 y1 CI CS CR CD
    generalize grow (redrawn w5 dq) osq = w6 at *
    have E6 := Hid.mk7 (E5.out.later b6)
    have O6 := Hid.mk7 (O5.out.later b6)
    have RD6 := Hid.mk7 (RD5.out.later b6)
    have RO6 := Hid.mk7 (RO5.out.later b6)
    have TT6 := Hid.mk7 (TT5.out.later b6)
    have G6 := Hid.mk7 (G5.out.trans (b6.mono G5.out.size))
    have d0 := RD6.out.c0
    have d1 := RD6.out.c1
    have x0 := RO6.out.c0
    have x1 := RO6.out.c1
    clear E5 O5 RD5 RO5 TT5 G5 b6
    go_wp2_with fail
    refine (size_no HIB.out HSA.out E6.out TT6.out).mono ?_
    rintro e w7 ⟨rfl, b7⟩
    clear d0 d1 x0 x1
    have E7 := Hid.mk7 (E6.out.later b7)
    have O7 := Hid.mk7 (O6.out.later b7)
    have RD7 := Hid.mk7 (RD6.out.later b7)
    have RO7 := Hid.mk7 (RO6.out.later b7)
    have TT7 := Hid.mk7 (TT6.out.later b7)
    have G7 := Hid.mk7 (G6.out.trans (b7.mono G6.out.size))
    have d0 := RD7.out.c0
    have d1 := RD7.out.c1
    have x0 := RO7.out.c0
    have x1 := RO7.out.c1
    clear E6 O6 RD6 RO6 TT6 G6 b7
    go_wp2_with fail
    refine (adds_no HIB.out HSA.out E7.out TT7.out).mono ?_
    rintro e w8 ⟨rfl, b8⟩
    clear d0 d1 x0 x1
    have E8 := Hid.mk7 (E7.out.later b8)
    have O8 := Hid.mk7 (O7.out.later b8)
    have RD8 := Hid.mk7 (RD7.out.later b8)
    have RO8 := Hid.mk7 (RO7.out.later b8)
    have TT8 := Hid.mk7 (TT7.out.later b8)
    have G8 := Hid.mk7 (G7.out.trans (b8.mono G7.out.size))
    have d0 := RD8.out.c0
    have d1 := RD8.out.c1
    have x0 := RO8.out.c0
    have x1 := RO8.out.c1
    clear E7 O7 RD7 RO7 TT7 G7 b8
    go_wp2_with fail
    refine (drops_no HIB.out HSA.out E8.out TT8.out).mono ?_
    rintro e w9 ⟨rfl, b9⟩
    clear d0 d1 x0 x1
    have E9 := Hid.mk7 (E8.out.later b9)
    have O9 := Hid.mk7 (O8.out.later b9)
    have RD9 := Hid.mk7 (RD8.out.later b9)
    have RO9 := Hid.mk7 (RO8.out.later b9)
    have TT9 := Hid.mk7 (TT8.out.later b9)
    have G9 := Hid.mk7 (G8.out.trans (b9.mono G8.out.size))
    have d0 := RD9.out.c0
    have d1 := RD9.out.c1
    have x0 := RO9.out.c0
    have x1 := RO9.out.c1
    clear E8 O8 RD8 RO8 TT8 G8 b9
    go_wp2
    go_ret
    exact ⟨rfl, G9.out⟩
  rw [hib] at HRI
  have HIB := Hid.mk7 hib
  have hd := dl_of hib
  have HD := Hid.mk7 hd
  have hn0 := hd.b0
  have hcz := cel_size es 0 0 hd.nm
  have hkc := kpt_cel es hd.bd
  have hkl := kpt_le (cel es)
  have hsz := hd.sz
  have hcl : (cel es).length ≤ 20000 := by rw [szE_two] at hcz; omega
  have HSZ : Hid (szE es = ((cel es).length : Int)) := hcz.symm
  have HAD : Hid ((inS es : Int) = ((cel es).length : Int) - (kpt (cel es) : Nat)) := by show _ = _; rw [szE_two] at hcz; omega
  have HDR : Hid (n - cpS es = n - (kpt (cel es) : Nat)) := by show _ = _; rw [hkc]
  have hcp := hd.cp1
  have hkn : (kpt (cel es) : Int) ≤ n := by rw [hkc]; exact hd.cp1
  obtain ⟨cs, HCS⟩ : ∃ cs, Hid (cel es = cs) := ⟨_, rfl⟩
  rw [HCS.out] at HSZ HAD HDR hkl hcl hkn
  clear hib hd hcz hkc hsz hcp
  by_cases hne : (s.size : Int) = n
  case neg =>
    have dne : ((s.size : Int) != n) = true := by simpa using hne
    go_enter Tryd.func3, Tryd.ntmps3
    have d0 := RD0.out.c0
    have d1 := RD0.out.c1
    have x0 := RO0.out.c0
    have x1 := RO0.out.c1
    go_wp2_with fail
    refine (HK.out).mono ?_
    rintro e w1 ⟨rfl, b1⟩
    clear d0 d1 x0 x1
    have E1 := Hid.mk7 (E0.out.later b1)
    have O1 := Hid.mk7 (O0.out.later b1)
    have RD1 := Hid.mk7 (RD0.out.later b1)
    have RO1 := Hid.mk7 (RO0.out.later b1)
    have TT1 := Hid.mk7 (TT0.out.later b1)
    have G1 := Hid.mk7 (G0.out.trans (b1.mono G0.out.size))
    have d0 := RD1.out.c0
    have d1 := RD1.out.c1
    have x0 := RO1.out.c0
    have x1 := RO1.out.c1
    clear E0 O0 RD0 RO0 TT0 G0 b1
    go_wp2_with fail
    refine (HFA.out _ E1.out).mono ?_
    rintro e w2 ⟨rfl, b2⟩
    clear d0 d1 x0 x1
    have E2 := Hid.mk7 (E1.out.later b2)
    have O2 := Hid.mk7 (O1.out.later b2)
    have RD2 := Hid.mk7 (RD1.out.later b2)
    have RO2 := Hid.mk7 (RO1.out.later b2)
    have TT2 := Hid.mk7 (TT1.out.later b2)
    have G2 := Hid.mk7 (G1.out.trans (b2.mono G1.out.size))
    have d0 := RD2.out.c0
    have d1 := RD2.out.c1
    have x0 := RO2.out.c0
    have x1 := RO2.out.c1
    clear E1 O1 RD1 RO1 TT1 G1 b2
    go_wp2_with fail
    refine (HFB.out _ O2.out).mono ?_
    rintro e w3 ⟨rfl, b3⟩
    clear d0 d1 x0 x1
    have E3 := Hid.mk7 (E2.out.later b3)
    have O3 := Hid.mk7 (O2.out.later b3)
    have RD3 := Hid.mk7 (RD2.out.later b3)
    have RO3 := Hid.mk7 (RO2.out.later b3)
    have TT3 := Hid.mk7 (TT2.out.later b3)
    have G3 := Hid.mk7 (G2.out.trans (b3.mono G2.out.size))
    have d0 := RD3.out.c0
    have d1 := RD3.out.c1
    have x0 := RO3.out.c0
    have x1 := RO3.out.c1
    clear E2 O2 RD2 RO2 TT2 G2 b3
    go_wp2_with fail
    refine (HRI.out _ E3.out).mono ?_
    rintro e w4 ⟨rfl, b4⟩
    clear d0 d1 x0 x1
    have E4 := Hid.mk7 (E3.out.later b4)
    have O4 := Hid.mk7 (O3.out.later b4)
    have RD4 := Hid.mk7 (RD3.out.later b4)
    have RO4 := Hid.mk7 (RO3.out.later b4)
    have TT4 := Hid.mk7 (TT3.out.later b4)
    have G4 := Hid.mk7 (G3.out.trans (b4.mono G3.out.size))
    have d0 := RD4.out.c0
    have d1 := RD4.out.c1
    have x0 := RO4.out.c0
    have x1 := RO4.out.c1
    clear E3 O3 RD3 RO3 TT3 G3 b4
    go_wp2_with fail
    refine (apply_lv HIB.out hne E4.out TT4.out).mono ?_
    rintro e w5 ⟨rfl, b5⟩
    clear d0 d1 x0 x1
    have E5 := Hid.mk7 (E4.out.later b5)
    have O5 := Hid.mk7 (O4.out.later b5)
    have RD5 := Hid.mk7 (RD4.out.later b5)
    have RO5 := Hid.mk7 (RO4.out.later b5)
    have TT5 := Hid.mk7 (TT4.out.later b5)
    have G5 := Hid.mk7 (G4.out.trans (b5.mono G4.out.size))
    have d0 := RD5.out.c0
    have d1 := RD5.out.c1
    have x0 := RO5.out.c0
    have x1 := RO5.out.c1
    clear E4 O4 RD4 RO4 TT4 G4 b5
    clear d0 d1 x0 x1
    have CI := Hid.mk7 (fun d os => Calls.regrown_of (is_v HIB.out HSA.out (E5.out.later (below_regrown w5 d os)) (TT5.out.later (below_regrown w5 d os))))
    have CS := Hid.mk7 (fun d os => Calls.regrown_of (same_v HSM.out (by omega) (E5.out.later (below_regrown w5 d os)) (O5.out.later (below_regrown w5 d os))))
    have CR := Hid.mk7 (fun d os => Calls.regrown_of (HRS.out _ (E5.out.later (below_regrown w5 d os)) (O5.out.later (below_regrown w5 d os))))
    have CD := Hid.mk7 (fun d os => Calls.regrown_of (same_v (base := n) (b := n) (es := es) (qs := es) (t := true) (decide_eq_true ⟨rfl, rfl⟩) (by omega) (E5.out.later (below_regrown w5 d os)) (E5.out.later (below_regrown w5 d os))))
    have z0 := cell_regrown RD5.out.c0
    have z1 := cell_regrown RD5.out.c1
    have y0 := cell_regrown RO5.out.c0
    have y1 := cell_regrown RO5.out.c1
    go_wp2
    refine wp_region_quiet_below (by kernel_rfl) (by kernel_rfl) ?_
    repeat (go_big_quiet_step (first | (go_at_call 13; exact CI.out _ _) | (go_at_call 15; exact CR.out _ _) | (go_at_call_of 14 (Value.agg #[Value.int .i64 n2, Value.slice ua qs.length ucap]); exact CS.out _ _) | (go_at_call 14; exact CD.out _ _)))
    refine wpQuiet_nil ?_
    intro _ hw'
    obtain ⟨⟨dq, osq⟩, hw''⟩ := hw'
    subst hw''
    have b6 := below_regrown w5 dq osq
    clear z0 z1 y0 y1 CI CS CR CD
    generalize grow (redrawn w5 dq) osq = w6 at *
    have E6 := Hid.mk7 (E5.out.later b6)
    have O6 := Hid.mk7 (O5.out.later b6)
    have RD6 := Hid.mk7 (RD5.out.later b6)
    have RO6 := Hid.mk7 (RO5.out.later b6)
    have TT6 := Hid.mk7 (TT5.out.later b6)
    have G6 := Hid.mk7 (G5.out.trans (b6.mono G5.out.size))
    have d0 := RD6.out.c0
    have d1 := RD6.out.c1
    have x0 := RO6.out.c0
    have x1 := RO6.out.c1
    clear E5 O5 RD5 RO5 TT5 G5 b6
    go_wp2_with fail
    refine (rcells_any n E6.out HD.out).mono ?_
    rintro e w7 ⟨lv, rfl, hown, b7⟩
    clear d0 d1 x0 x1
    have E7 := Hid.mk7 (E6.out.later b7)
    have O7 := Hid.mk7 (O6.out.later b7)
    have RD7 := Hid.mk7 (RD6.out.later b7)
    have RO7 := Hid.mk7 (RO6.out.later b7)
    have TT7 := Hid.mk7 (TT6.out.later b7)
    have G7 := Hid.mk7 (G6.out.trans (b7.mono G6.out.size))
    have d0 := RD7.out.c0
    have d1 := RD7.out.c1
    have x0 := RO7.out.c0
    have x1 := RO7.out.c1
    clear E6 O6 RD6 RO6 TT6 G6 b7
    rw [HCS.out] at hown
    have KA7 := Hid.mk7 hown.row
    obtain ⟨la, lcap, rfl, _, hcells⟩ := id KA7.out
    have HC := Hid.mk7 hcells
    clear hown hcells
    go_wp2
    go_loopw [11, 12] (fun kv iv wr => ∃ k : Nat, k ≤ cs.length ∧ iv = .int .i64 (k : Nat) ∧ kv = .int .i64 (kpt (cs.take k) : Nat) ∧ RowKit.Below w7.heap.size w7 wr) (fun _ iv _ => cs.length - (intOf iv).toNat)
    case atStart => exact ⟨0, Nat.zero_le _, rfl, rfl, RowKit.Below.refl _ _⟩
    case round =>
      obtain ⟨k, hk, rfl, rfl, hb⟩ := hrel
      by_cases hlt : k < cs.length
      · obtain ⟨⟨p, b⟩, hr⟩ : ∃ r, cs[k]? = some r := ⟨cs[k], List.getElem?_eq_getElem hlt⟩
        obtain ⟨g, off, rfl, q0, q1⟩ := HC.out k _ hr
        have c0 := cell_later7 hb (Nat.le_refl _) q0
        simp only at c0
        have HT := Hid.mk7 (kpt_take hr)
        have hkk : kpt (cs.take k) ≤ k := by have := kpt_le (cs.take k); rw [List.length_take] at this; omega
        obtain ⟨kk, HKK⟩ : ∃ kk, Hid (kpt (cs.take k) = kk) := ⟨_, rfl⟩
        rw [HKK.out] at hkk HT ⊢
        clear q0 q1 hr d0 d1 x0 x1
        by_cases hp : 0 ≤ p
        · have dp : decide (0 ≤ p) = true := decide_eq_true hp
          have HT2 : Hid (kpt (cs.take (k + 1)) = kk + 1) := by show _ = _; rw [HT.out, if_pos hp]
          clear HT
          go_wp2
          go_roundw
          case rel => exact ⟨k + 1, by omega, by go_num, by rw [HT2.out]; go_num, hb⟩
          case measure => simp [intOf]; omega
        · have dp : decide (0 ≤ p) = false := decide_eq_false hp
          have HT2 : Hid (kpt (cs.take (k + 1)) = kk) := by show _ = _; rw [HT.out, if_neg hp]; rfl
          clear HT
          go_wp2
          go_roundw
          case rel => exact ⟨k + 1, by omega, by go_num, by rw [HT2.out], hb⟩
          case measure => simp [intOf]; omega
      · obtain rfl : k = cs.length := by omega
        rw [List.take_length]
        clear d0 d1 x0 x1
        obtain ⟨kp, HKP⟩ : ∃ kp, Hid (kpt cs = kp) := ⟨_, rfl⟩
        rw [HKP.out] at HAD HDR hkl hkn ⊢
        have KA8 := Hid.mk7 (KA7.out.later hb)
        generalize hwr : wr = w8 at *
        clear hwr
        have E8 := Hid.mk7 (E7.out.later hb)
        have O8 := Hid.mk7 (O7.out.later hb)
        have RD8 := Hid.mk7 (RD7.out.later hb)
        have RO8 := Hid.mk7 (RO7.out.later hb)
        have TT8 := Hid.mk7 (TT7.out.later hb)
        have G8 := Hid.mk7 (G7.out.trans (hb.mono G7.out.size))
        have d0 := RD8.out.c0
        have d1 := RD8.out.c1
        have x0 := RO8.out.c0
        have x1 := RO8.out.c1
        clear E7 O7 RD7 RO7 TT7 G7 hb
        have hKA := KA8
        clear HC
        clear d0 d1 x0 x1
        have CZ := Hid.mk7 (fun d os => Calls.regrown_of (size_v HIB.out HSZ.out (E8.out.later (below_regrown w8 d os)) (TT8.out.later (below_regrown w8 d os))))
        have CA := Hid.mk7 (fun d os => Calls.regrown_of (adds_v HIB.out HAD.out (E8.out.later (below_regrown w8 d os)) (TT8.out.later (below_regrown w8 d os))))
        have CP := Hid.mk7 (fun d os => Calls.regrown_of (drops_v HIB.out HDR.out (E8.out.later (below_regrown w8 d os)) (TT8.out.later (below_regrown w8 d os))))
        have z0 := cell_regrown RD8.out.c0
        have z1 := cell_regrown RD8.out.c1
        have y0 := cell_regrown RO8.out.c0
        have y1 := cell_regrown RO8.out.c1
        go_wp2
        refine wp_region_quiet_below (by kernel_rfl) (by kernel_rfl) ?_
        repeat (go_big_quiet_step (first | (go_at_call 16; exact CZ.out _ _) | (go_at_call 17; exact CA.out _ _) | (go_at_call 18; exact CP.out _ _)))
        refine wpQuiet_nil ?_
        intro _ hw'
        obtain ⟨⟨dq, osq⟩, hw''⟩ := hw'
        subst hw''
        have b9 := below_regrown w8 dq osq
        have KAX := Hid.mk7 (hKA.out.later b9)
        clear z0 z1 y0 y1 CZ CA CP
        generalize grow (redrawn w8 dq) osq = w9 at *
        have E9 := Hid.mk7 (E8.out.later b9)
        have O9 := Hid.mk7 (O8.out.later b9)
        have RD9 := Hid.mk7 (RD8.out.later b9)
        have RO9 := Hid.mk7 (RO8.out.later b9)
        have TT9 := Hid.mk7 (TT8.out.later b9)
        have G9 := Hid.mk7 (G8.out.trans (b9.mono G8.out.size))
        have d0 := RD9.out.c0
        have d1 := RD9.out.c1
        have x0 := RO9.out.c0
        have x1 := RO9.out.c1
        clear E8 O8 RD8 RO8 TT8 G8 b9

        go_wp2
        go_ret
        exact ⟨rfl, G9.out⟩
  have dne : ((s.size : Int) != n) = false := by simpa using hne
  have HNE := Hid.mk7 hne
  obtain ⟨r, HR⟩ : ∃ r, Hid (cacc (apl cs s.data.toList) = r) := ⟨_, rfl⟩
  have HIN := Hid.mk7 (cel_in (nm_inn (show n ≤ (s.size : Nat) by omega) es 0 0 (Int.le_refl _) HD.out.nm))
  rw [HCS.out] at HIN
  clear hne
  go_enter Tryd.func3, Tryd.ntmps3
  have d0 := RD0.out.c0
  have d1 := RD0.out.c1
  have x0 := RO0.out.c0
  have x1 := RO0.out.c1
  go_wp2_with fail
  refine (HK.out).mono ?_
  rintro e w1 ⟨rfl, b1⟩
  clear d0 d1 x0 x1
  have E1 := Hid.mk7 (E0.out.later b1)
  have O1 := Hid.mk7 (O0.out.later b1)
  have RD1 := Hid.mk7 (RD0.out.later b1)
  have RO1 := Hid.mk7 (RO0.out.later b1)
  have TT1 := Hid.mk7 (TT0.out.later b1)
  have G1 := Hid.mk7 (G0.out.trans (b1.mono G0.out.size))
  have d0 := RD1.out.c0
  have d1 := RD1.out.c1
  have x0 := RO1.out.c0
  have x1 := RO1.out.c1
  clear E0 O0 RD0 RO0 TT0 G0 b1
  go_wp2_with fail
  refine (HFA.out _ E1.out).mono ?_
  rintro e w2 ⟨rfl, b2⟩
  clear d0 d1 x0 x1
  have E2 := Hid.mk7 (E1.out.later b2)
  have O2 := Hid.mk7 (O1.out.later b2)
  have RD2 := Hid.mk7 (RD1.out.later b2)
  have RO2 := Hid.mk7 (RO1.out.later b2)
  have TT2 := Hid.mk7 (TT1.out.later b2)
  have G2 := Hid.mk7 (G1.out.trans (b2.mono G1.out.size))
  have d0 := RD2.out.c0
  have d1 := RD2.out.c1
  have x0 := RO2.out.c0
  have x1 := RO2.out.c1
  clear E1 O1 RD1 RO1 TT1 G1 b2
  go_wp2_with fail
  refine (HFB.out _ O2.out).mono ?_
  rintro e w3 ⟨rfl, b3⟩
  clear d0 d1 x0 x1
  have E3 := Hid.mk7 (E2.out.later b3)
  have O3 := Hid.mk7 (O2.out.later b3)
  have RD3 := Hid.mk7 (RD2.out.later b3)
  have RO3 := Hid.mk7 (RO2.out.later b3)
  have TT3 := Hid.mk7 (TT2.out.later b3)
  have G3 := Hid.mk7 (G2.out.trans (b3.mono G2.out.size))
  have d0 := RD3.out.c0
  have d1 := RD3.out.c1
  have x0 := RO3.out.c0
  have x1 := RO3.out.c1
  clear E2 O2 RD2 RO2 TT2 G2 b3
  go_wp2_with fail
  refine (HRI.out _ E3.out).mono ?_
  rintro e w4 ⟨rfl, b4⟩
  clear d0 d1 x0 x1
  have E4 := Hid.mk7 (E3.out.later b4)
  have O4 := Hid.mk7 (O3.out.later b4)
  have RD4 := Hid.mk7 (RD3.out.later b4)
  have RO4 := Hid.mk7 (RO3.out.later b4)
  have TT4 := Hid.mk7 (TT3.out.later b4)
  have G4 := Hid.mk7 (G3.out.trans (b4.mono G3.out.size))
  have d0 := RD4.out.c0
  have d1 := RD4.out.c1
  have x0 := RO4.out.c0
  have x1 := RO4.out.c1
  clear E3 O3 RD3 RO3 TT3 G3 b4
  go_wp2_with fail
  refine (apply_v (r := r) HIB.out HNE.out (by rw [HCS.out]; exact HR.out) E4.out TT4.out).mono ?_
  rintro e w5 ⟨rfl, b5⟩
  clear d0 d1 x0 x1
  have E5 := Hid.mk7 (E4.out.later b5)
  have O5 := Hid.mk7 (O4.out.later b5)
  have RD5 := Hid.mk7 (RD4.out.later b5)
  have RO5 := Hid.mk7 (RO4.out.later b5)
  have TT5 := Hid.mk7 (TT4.out.later b5)
  have G5 := Hid.mk7 (G4.out.trans (b5.mono G4.out.size))
  have d0 := RD5.out.c0
  have d1 := RD5.out.c1
  have x0 := RO5.out.c0
  have x1 := RO5.out.c1
  clear E4 O4 RD4 RO4 TT4 G4 b5
  clear d0 d1 x0 x1
  have CI := Hid.mk7 (fun d os => Calls.regrown_of (is_v HIB.out HSA.out (E5.out.later (below_regrown w5 d os)) (TT5.out.later (below_regrown w5 d os))))
  have CS := Hid.mk7 (fun d os => Calls.regrown_of (same_v HSM.out (by omega) (E5.out.later (below_regrown w5 d os)) (O5.out.later (below_regrown w5 d os))))
  have CR := Hid.mk7 (fun d os => Calls.regrown_of (HRS.out _ (E5.out.later (below_regrown w5 d os)) (O5.out.later (below_regrown w5 d os))))
  have CD := Hid.mk7 (fun d os => Calls.regrown_of (same_v (base := n) (b := n) (es := es) (qs := es) (t := true) (decide_eq_true ⟨rfl, rfl⟩) (by omega) (E5.out.later (below_regrown w5 d os)) (E5.out.later (below_regrown w5 d os))))
  have z0 := cell_regrown RD5.out.c0
  have z1 := cell_regrown RD5.out.c1
  have y0 := cell_regrown RO5.out.c0
  have y1 := cell_regrown RO5.out.c1
  go_wp2
  refine wp_region_quiet_below (by kernel_rfl) (by kernel_rfl) ?_
  repeat (go_big_quiet_step (first | (go_at_call 13; exact CI.out _ _) | (go_at_call 15; exact CR.out _ _) | (go_at_call_of 14 (Value.agg #[Value.int .i64 n2, Value.slice ua qs.length ucap]); exact CS.out _ _) | (go_at_call 14; exact CD.out _ _)))
  refine wpQuiet_nil ?_
  intro _ hw'
  obtain ⟨⟨dq, osq⟩, hw''⟩ := hw'
  subst hw''
  have b6 := below_regrown w5 dq osq
  clear z0 z1 y0 y1 CI CS CR CD
  generalize grow (redrawn w5 dq) osq = w6 at *
  have E6 := Hid.mk7 (E5.out.later b6)
  have O6 := Hid.mk7 (O5.out.later b6)
  have RD6 := Hid.mk7 (RD5.out.later b6)
  have RO6 := Hid.mk7 (RO5.out.later b6)
  have TT6 := Hid.mk7 (TT5.out.later b6)
  have G6 := Hid.mk7 (G5.out.trans (b6.mono G5.out.size))
  have d0 := RD6.out.c0
  have d1 := RD6.out.c1
  have x0 := RO6.out.c0
  have x1 := RO6.out.c1
  clear E5 O5 RD5 RO5 TT5 G5 b6
  go_wp2_with fail
  refine (rcells_any n E6.out HD.out).mono ?_
  rintro e w7 ⟨lv, rfl, hown, b7⟩
  clear d0 d1 x0 x1
  have E7 := Hid.mk7 (E6.out.later b7)
  have O7 := Hid.mk7 (O6.out.later b7)
  have RD7 := Hid.mk7 (RD6.out.later b7)
  have RO7 := Hid.mk7 (RO6.out.later b7)
  have TT7 := Hid.mk7 (TT6.out.later b7)
  have G7 := Hid.mk7 (G6.out.trans (b7.mono G6.out.size))
  have d0 := RD7.out.c0
  have d1 := RD7.out.c1
  have x0 := RO7.out.c0
  have x1 := RO7.out.c1
  clear E6 O6 RD6 RO6 TT6 G6 b7
  rw [HCS.out] at hown
  have KA7 := Hid.mk7 hown.row
  obtain ⟨la, lcap, rfl, _, hcells⟩ := id KA7.out
  have HC := Hid.mk7 hcells
  clear hown hcells
  go_wp2
  go_loopw [11, 12] (fun kv iv wr => ∃ k : Nat, k ≤ cs.length ∧ iv = .int .i64 (k : Nat) ∧ kv = .int .i64 (kpt (cs.take k) : Nat) ∧ RowKit.Below w7.heap.size w7 wr) (fun _ iv _ => cs.length - (intOf iv).toNat)
  case atStart => exact ⟨0, Nat.zero_le _, rfl, rfl, RowKit.Below.refl _ _⟩
  case round =>
    obtain ⟨k, hk, rfl, rfl, hb⟩ := hrel
    by_cases hlt : k < cs.length
    · obtain ⟨⟨p, b⟩, hr⟩ : ∃ r, cs[k]? = some r := ⟨cs[k], List.getElem?_eq_getElem hlt⟩
      obtain ⟨g, off, rfl, q0, q1⟩ := HC.out k _ hr
      have c0 := cell_later7 hb (Nat.le_refl _) q0
      simp only at c0
      have HT := Hid.mk7 (kpt_take hr)
      have hkk : kpt (cs.take k) ≤ k := by have := kpt_le (cs.take k); rw [List.length_take] at this; omega
      obtain ⟨kk, HKK⟩ : ∃ kk, Hid (kpt (cs.take k) = kk) := ⟨_, rfl⟩
      rw [HKK.out] at hkk HT ⊢
      clear q0 q1 hr d0 d1 x0 x1
      by_cases hp : 0 ≤ p
      · have dp : decide (0 ≤ p) = true := decide_eq_true hp
        have HT2 : Hid (kpt (cs.take (k + 1)) = kk + 1) := by show _ = _; rw [HT.out, if_pos hp]
        clear HT
        go_wp2
        go_roundw
        case rel => exact ⟨k + 1, by omega, by go_num, by rw [HT2.out]; go_num, hb⟩
        case measure => simp [intOf]; omega
      · have dp : decide (0 ≤ p) = false := decide_eq_false hp
        have HT2 : Hid (kpt (cs.take (k + 1)) = kk) := by show _ = _; rw [HT.out, if_neg hp]; rfl
        clear HT
        go_wp2
        go_roundw
        case rel => exact ⟨k + 1, by omega, by go_num, by rw [HT2.out], hb⟩
        case measure => simp [intOf]; omega
    · obtain rfl : k = cs.length := by omega
      rw [List.take_length]
      clear d0 d1 x0 x1
      obtain ⟨kp, HKP⟩ : ∃ kp, Hid (kpt cs = kp) := ⟨_, rfl⟩
      rw [HKP.out] at HAD HDR hkl hkn ⊢
      have KA8 := Hid.mk7 (KA7.out.later hb)
      generalize hwr : wr = w8 at *
      clear hwr
      have E8 := Hid.mk7 (E7.out.later hb)
      have O8 := Hid.mk7 (O7.out.later hb)
      have RD8 := Hid.mk7 (RD7.out.later hb)
      have RO8 := Hid.mk7 (RO7.out.later hb)
      have TT8 := Hid.mk7 (TT7.out.later hb)
      have G8 := Hid.mk7 (G7.out.trans (hb.mono G7.out.size))
      have d0 := RD8.out.c0
      have d1 := RD8.out.c1
      have x0 := RO8.out.c0
      have x1 := RO8.out.c1
      clear E7 O7 RD7 RO7 TT7 G7 hb
      have hKA := KA8
      clear HC
      clear d0 d1 x0 x1
      have CZ := Hid.mk7 (fun d os => Calls.regrown_of (size_v HIB.out HSZ.out (E8.out.later (below_regrown w8 d os)) (TT8.out.later (below_regrown w8 d os))))
      have CA := Hid.mk7 (fun d os => Calls.regrown_of (adds_v HIB.out HAD.out (E8.out.later (below_regrown w8 d os)) (TT8.out.later (below_regrown w8 d os))))
      have CP := Hid.mk7 (fun d os => Calls.regrown_of (drops_v HIB.out HDR.out (E8.out.later (below_regrown w8 d os)) (TT8.out.later (below_regrown w8 d os))))
      have z0 := cell_regrown RD8.out.c0
      have z1 := cell_regrown RD8.out.c1
      have y0 := cell_regrown RO8.out.c0
      have y1 := cell_regrown RO8.out.c1
      go_wp2
      refine wp_region_quiet_below (by kernel_rfl) (by kernel_rfl) ?_
      repeat (go_big_quiet_step (first | (go_at_call 16; exact CZ.out _ _) | (go_at_call 17; exact CA.out _ _) | (go_at_call 18; exact CP.out _ _)))
      refine wpQuiet_nil ?_
      intro _ hw'
      obtain ⟨⟨dq, osq⟩, hw''⟩ := hw'
      subst hw''
      have b9 := below_regrown w8 dq osq
      have KAX := Hid.mk7 (hKA.out.later b9)
      clear z0 z1 y0 y1 CZ CA CP
      generalize grow (redrawn w8 dq) osq = w9 at *
      have E9 := Hid.mk7 (E8.out.later b9)
      have O9 := Hid.mk7 (O8.out.later b9)
      have RD9 := Hid.mk7 (RD8.out.later b9)
      have RO9 := Hid.mk7 (RO8.out.later b9)
      have TT9 := Hid.mk7 (TT8.out.later b9)
      have G9 := Hid.mk7 (G8.out.trans (b9.mono G8.out.size))
      have d0 := RD9.out.c0
      have d1 := RD9.out.c1
      have x0 := RO9.out.c0
      have x1 := RO9.out.c1
      clear E8 O8 RD8 RO8 TT8 G8 b9

      have HRA := Hid.mk7 (rapply_any s KAX.out hcl (by omega) HIN.out)
      rw [HR.out] at HRA
      go_wp2_with fail
      refine (HRA.out).mono ?_
      rintro e w10 ⟨rfl, b10⟩
      clear d0 d1 x0 x1
      have E10 := Hid.mk7 (E9.out.later b10)
      have O10 := Hid.mk7 (O9.out.later b10)
      have RD10 := Hid.mk7 (RD9.out.later b10)
      have RO10 := Hid.mk7 (RO9.out.later b10)
      have TT10 := Hid.mk7 (TT9.out.later b10)
      have G10 := Hid.mk7 (G9.out.trans (b10.mono G9.out.size))
      have d0 := RD10.out.c0
      have d1 := RD10.out.c1
      have x0 := RO10.out.c0
      have x1 := RO10.out.c1
      clear E9 O9 RD9 RO9 TT9 G9 b10
      go_wp2
      go_ret
      exact ⟨rfl, G10.out⟩
end Go.Proofs.YtpfkidcaolfcoaaDoor
