/- FactorCounts walked. -/
import Derived.Test.YtalolaajcmndeaaDoorFacKnown
namespace Go.Proofs.YtalolaajcmndeaaDoor
open Go.RowKit Go.Sort Go.Lib
set_option linter.unusedSimpArgs false
set_option linter.unusedVariables false

theorem sm_in {l : List El} {m n : Nat} (h : Sm l m) (hl : l.length ≤ n) : inS l ≤ m * n :=
  Nat.le_trans (inS_bd l m h) (Nat.mul_le_mul_left _ hl)
/-- What Build says where it fails. -/
theorem build_f {w : World} {v : Value} {base r : Int} {l : List El} {tb : Nat × Nat} (hb : bldE base l = r) (hr : r ≠ 0) (hsm : Sm l 60) (hl : l.length ≤ 12) (h : ElAt w v l) (hT : Tab w tb) :
    Calls Tryd.prog 24 #[.int .i64 base, v] w fun e w' => e = .returned (.tuple #[.agg #[.int .i64 0, .slice none 0 0], .int .i64 r]) ∧ Below w.heap.size w w' := by
  have hin := sm_in hsm hl
  unfold bldE at hb
  by_cases hf : flt base l = 0
  · rw [if_neg (by omega)] at hb
    split at hb
    · rename_i hm
      subst hb
      exact build_many base h (hsm.mono (by omega)) (by omega) (by omega) tb hT hf hm
    · exact absurd hb.symm hr
  · rw [if_pos hf] at hb
    subst hb
    exact build_bad base h (hsm.mono (by omega)) (by omega) tb hT hf
theorem bld_good {base : Int} {l : List El} (h : bldE base l = 0) : flt base l = 0 ∧ (elG base [] 0 l).length ≤ 60 := by
  unfold bldE at h
  split at h
  · rename_i hf; exact absurd h hf
  · rename_i hf
    split at h
    · cases h
    · exact ⟨by omega, by omega⟩
set_option maxHeartbeats 8000000 in
set_option maxRecDepth 100000 in
theorem counts12_any (n : Int) (hn0 : 0 ≤ n) (hn1 : n ≤ 255) {v : Value} {l : List El} (hl : l.length ≤ maxLen) (w : World) (tb : Nat × Nat) (hT : Tab w tb) (h : ElAt w v l) :
    Calls Tryd.prog 7 #[.int .u8 n, v] w fun e w' => e = .returned (.bool true) ∧ RowKit.Below w.heap.size w w' := by
  have HK := Hid.mk7 (known12_any w tb hT)
  have HT := Hid.mk7 hT
  have HV := Hid.mk7 h
  obtain ⟨a, cap, rfl, hcap, _, _⟩ := id h
  clear hT h
  by_cases hlong : 12 < l.length
  · have t1 : decide ((12 : Int) < (l.length : Int)) = true := decide_eq_true (by omega)
    go_enter Tryd.func7, Tryd.ntmps7
    go_wp2_with fail
    refine HK.out.mono ?_
    rintro e w1 ⟨rfl, b1⟩
    go_wp2
    go_ret
    exact ⟨rfl, b1⟩
  have t1 : decide ((12 : Int) < (l.length : Int)) = false := decide_eq_false (by omega)
  have hl12 : l.length ≤ 12 := by omega
  go_enter Tryd.func7, Tryd.ntmps7
  go_wp2_with fail
  refine HK.out.mono ?_
  rintro e w1 ⟨rfl, b1⟩
  have HV1 := Hid.mk7 (HV.out.later b1)
  have HT1 := Hid.mk7 (HT.out.later b1)
  have G1 := Hid.mk7 b1
  obtain ⟨_, _, e4, _, _, hcells⟩ := id HV1.out
  cases e4
  have HC := Hid.mk7 hcells
  clear hcells HV HT HK b1
  go_wp2
  go_loopw [5] (fun iv wr => ∃ k : Nat, k ≤ l.length ∧ iv = .int .i64 (k : Nat) ∧ Hid (Sm (l.take k) 40) ∧ wr = w1) (fun iv _ => l.length - (intOf iv).toNat)
  case atStart => exact ⟨0, Nat.zero_le _, rfl, (fun e he => by simp at he), rfl⟩
  case round =>
    obtain ⟨k, hk, rfl, HS, rfl⟩ := hrel
    by_cases hlt : k < l.length
    · obtain ⟨⟨f, t, T⟩, hr⟩ : ∃ r, l[k]? = some r := ⟨l[k], List.getElem?_eq_getElem hlt⟩
      obtain ⟨g, off, rfl, q0, q1, q2⟩ := HC.out k _ hr
      simp only at q2
      have hcs : (cacc T).size = T.length := cacc_size T
      have HR := Hid.mk7 hr
      clear q0 q1 hr
      generalize cacc T = s at *
      by_cases hT40 : 40 < T.length
      · have d1 : decide ((40 : Int) < (T.length : Int)) = true := decide_eq_true (by omega)
        go_wp2
        go_ret
        exact ⟨rfl, G1.out⟩
      · have d1 : decide ((40 : Int) < (T.length : Int)) = false := decide_eq_false (by omega)
        have HS2 : Hid (Sm (l.take (k + 1)) 40) := by
          intro e he
          rw [take_snoc7 HR.out] at he
          rcases List.mem_append.1 he with he | he
          · exact HS.out e he
          · simp only [List.mem_singleton] at he
            subst he
            show T.length ≤ 40
            omega
        clear HS HR
        go_wp2
        go_roundw
        case rel => exact ⟨k + 1, by omega, by go_num, HS2, trivial⟩
        case measure => simp [intOf]; omega
    · obtain rfl : k = l.length := by omega
      have hsm : Sm l 40 := by have := HS.out; rw [List.take_length] at this; exact this
      have hin := sm_in hsm hl12
      clear HS HC
      by_cases hb : bldE n l = 0
      case neg =>
        obtain ⟨r, hr⟩ : ∃ r, bldE n l = r := ⟨_, rfl⟩
        rw [hr] at hb
        have HB := Hid.mk7 (build_f (tb := tb) hr hb (hsm.mono (by omega)) hl12 HV1.out HT1.out)
        have d0 : (r != 0) = true := by simpa using hb
        have d1 : decide (r = 0) = false := by simpa using hb
        clear hr hb
        go_wp2_with fail
        refine HB.out.mono ?_
        rintro e w3 ⟨rfl, b3⟩
        have g3 := below_newE (G1.out.trans (b3.mono G1.out.size)) (.cells #[.int .i64 0, .slice none 0 0] 24)
        go_wp2
        go_ret
        exact ⟨rfl, g3⟩
      obtain ⟨hf, hm⟩ := bld_good hb
      have IS := Hid.mk7 (isB_elG hf hm)
      have HB := Hid.mk7 (build_v (tb := tb) hf rfl hm (hsm.mono (by omega)) (by omega) (by omega) HV1.out HT1.out)
      clear hf hb
      obtain ⟨E, hE⟩ : ∃ E, elG n [] 0 l = E := ⟨_, rfl⟩
      rw [hE] at IS HB hm
      clear hE
      have hd := dl_of IS.out
      have NM := (isB_spec.1 IS.out).2.1
      have il := insL_len E 0 0 NM
      have iz := insL_szc E
      have gl := gon_len E 0 0 hd.b0 NM
      have gz := gon_szc E 0 0 hd.b0 NM
      rw [Int.sub_zero] at gl gz
      obtain ⟨L1, hL1⟩ : ∃ L1, insL E = L1 := ⟨_, rfl⟩
      obtain ⟨L2, hL2⟩ : ∃ L2, gon n 0 E = L2 := ⟨_, rfl⟩
      have o1 := (ins_ok8 IS.out).1
      have o2 := (gon_ok8 IS.out).1
      rw [hL1] at il iz o1
      rw [hL2] at gl gz o2
      have HL1 := Hid.mk7 hL1
      have HL2 := Hid.mk7 hL2
      obtain ⟨z1, hz1⟩ : ∃ z : Int, (szc L1 : Int) = z := ⟨_, rfl⟩
      obtain ⟨z2, hz2⟩ : ∃ z : Int, (L1.length : Int) = z := ⟨_, rfl⟩
      obtain ⟨z3, hz3⟩ : ∃ z : Int, (szc L2 : Int) = z := ⟨_, rfl⟩
      have HA : Hid ((inS E : Int) = z1) := by show _ = _; omega
      have HSZ : Hid (szE E = z2) := by show _ = _; omega
      have HD : Hid (n - cpS E = z3) := by show _ = _; omega
      have HZ1 := Hid.mk7 hz1
      have HZ2 := Hid.mk7 hz2
      have HZ3 := Hid.mk7 hz3
      have HZ4 := Hid.mk7 gl
      clear il iz gl gz hL1 hL2 hz1 hz2 hz3 NM hd hin hsm
      go_wp2_with fail
      refine HB.out.mono ?_
      rintro e w2 ⟨v2, rfl, h2, b2⟩
      obtain ⟨a2, c2, rfl, _, _, _⟩ := id h2
      have b3 := below_newE b2 (.cells #[.int .i64 n, .slice a2 E.length c2] 24)
      have EE := Hid.mk7 (h2.alloc (.cells #[.int .i64 n, .slice a2 E.length c2] 24))
      have RD := Hid.mk7 (Rd.new w2 (.int .i64 n) (.slice a2 E.length c2))
      have TT := Hid.mk7 (HT1.out.later b3)
      have GG := Hid.mk7 (G1.out.trans (b3.mono G1.out.size))
      have d0 := RD.out.c0
      have d1 := RD.out.c1
      clear b2 b3 h2 HB HV1 HT1 G1
      go_wp2_with fail
      refine (inserted_v IS.out HL1.out EE.out TT.out).mono ?_
      rintro e w4 ⟨p1, rfl, s1, bz⟩
      clear d0 d1
      have S4 := Hid.mk7 s1
      have EE4 := Hid.mk7 (EE.out.later bz)
      have RD4 := Hid.mk7 (RD.out.later bz)
      have TT4 := Hid.mk7 (TT.out.later bz)
      have GG4 := Hid.mk7 (GG.out.trans (bz.mono GG.out.size))
      have d0 := RD4.out.c0
      have d1 := RD4.out.c1
      clear bz EE RD TT GG s1
      go_wp2_with fail
      refine (deleted_v IS.out HL2.out EE4.out TT4.out).mono ?_
      rintro e w5 ⟨p2, rfl, s2, bz⟩
      clear d0 d1
      have S5 := Hid.mk7 (S4.out.later bz)
      have D5 := Hid.mk7 s2
      have EE5 := Hid.mk7 (EE4.out.later bz)
      have RD5 := Hid.mk7 (RD4.out.later bz)
      have TT5 := Hid.mk7 (TT4.out.later bz)
      have GG5 := Hid.mk7 (GG4.out.trans (bz.mono GG4.out.size))
      clear bz EE4 RD4 TT4 GG4 s2 S4
      have z0 := cell_regrown RD5.out.c0
      have z1' := cell_regrown RD5.out.c1
      have CSZ : Hid (∀ (q : Value) (z : Int) (d : Nat) (os : Array Obj), ((q = p1 ∧ z = z1) ∨ (q = p2 ∧ z = z3)) → Calls Tryd.prog 36 #[q] (grow (redrawn w5 d) os) fun e w'' => e = .returned (.int .i64 z) ∧ ∃ p : Regrown, w'' = grow (redrawn w5 p.d) p.os) := fun q z d os h => by
        rcases h with ⟨rfl, rfl⟩ | ⟨rfl, rfl⟩
        · exact Calls.regrown_of (size_vF HZ1.out o1 (S5.out.later (below_regrown w5 d os)))
        · exact Calls.regrown_of (size_vF HZ3.out o2 (D5.out.later (below_regrown w5 d os)))
      have CLE : Hid (∀ (q : Value) (z : Int) (d : Nat) (os : Array Obj), ((q = p1 ∧ z = z2) ∨ (q = p2 ∧ z = n)) → Calls Tryd.prog 35 #[q] (grow (redrawn w5 d) os) fun e w'' => e = .returned (.int .i64 z) ∧ ∃ p : Regrown, w'' = grow (redrawn w5 p.d) p.os) := fun q z d os h => by
        rcases h with ⟨rfl, rfl⟩ | ⟨rfl, rfl⟩
        · exact Calls.regrown_of (len_vF HZ2.out o1 (S5.out.later (below_regrown w5 d os)))
        · exact Calls.regrown_of (len_vF HZ4.out o2 (D5.out.later (below_regrown w5 d os)))
      have CAD := Hid.mk7 (fun d os => Calls.regrown_of (adds_v IS.out HA.out (EE5.out.later (below_regrown w5 d os)) (TT5.out.later (below_regrown w5 d os))))
      have CSI := Hid.mk7 (fun d os => Calls.regrown_of (size_v IS.out HSZ.out (EE5.out.later (below_regrown w5 d os)) (TT5.out.later (below_regrown w5 d os))))
      have CDR := Hid.mk7 (fun d os => Calls.regrown_of (drops_v IS.out HD.out (EE5.out.later (below_regrown w5 d os)) (TT5.out.later (below_regrown w5 d os))))
      go_wp2_with fail
      refine wp_region_quiet_below (by kernel_rfl) (by kernel_rfl) ?_
      try simp only [List.append]
      repeat (go_big_quiet_step (first
        | (go_at_call 36; exact CSZ.out _ _ _ _ (by first | exact Or.inl ⟨rfl, rfl⟩ | exact Or.inr ⟨rfl, rfl⟩))
        | (go_at_call 35; exact CLE.out _ _ _ _ (by first | exact Or.inl ⟨rfl, rfl⟩ | exact Or.inr ⟨rfl, rfl⟩))
        | (go_at_call 31; exact CAD.out _ _)
        | (go_at_call 37; exact CSI.out _ _)
        | (go_at_call 28; exact CDR.out _ _)))
      refine wpQuiet_nil ?_
      intro _ hw'
      obtain ⟨⟨dq, osq⟩, hw''⟩ := hw'
      subst hw''
      have GG6 := Hid.mk7 (GG5.out.trans ((below_regrown w5 dq osq).mono GG5.out.size))
      clear z0 z1' CSZ CLE CAD CSI CDR
      go_wp2
      go_ret
      exact ⟨rfl, GG6.out⟩
end Go.Proofs.YtalolaajcmndeaaDoor
