/- offset's Back, Interval. -/
import Derived.Test.YtelpinngimohoaaDoorOffMove
import Derived.Test.YtelpinngimohoaaDoorTurnsP
import Derived.BigQuiet
namespace Go.Proofs.YtelpinngimohoaaDoor
open Go.RowKit Go.Sort
set_option linter.unusedSimpArgs false
set_option linter.unusedVariables false

theorem size_of14 {base : Int} {es : List El} (hi : isB base es = true) : (if isB base es then szE es else 0) = ((cel es).length : Nat) := by rw [if_pos hi, (cel_len14 hi).1]
theorem min_cases14 {a q : Int} {n : Nat} (h : q = min (max a 0) (n : Int)) : (a ≤ 0 ∧ q = 0) ∨ (0 ≤ a ∧ a < n ∧ q = a) ∨ ((n : Int) ≤ a ∧ q = n) := by
  rw [h, Int.min_def, Int.max_def]
  repeat' split
  all_goals omega
set_option maxHeartbeats 4000000 in
set_option maxRecDepth 100000 in
theorem back_any {w : World} {v : Value} {es : List El} (base at' : Int) (h : ElAt w v es) (hsm : Sm es 281474976710656) (tb : Nat × Nat) (hT : Tab w tb) :
    Calls Tryd.prog 14 #[.agg #[.int .i64 base, v], .int .i64 at'] w fun e w' => e = .returned (.int .i64 (bkV base es at')) ∧ Below w.heap.size w w' := by
  have HV := Hid.mk7 (h.alloc (.cells #[.int .i64 base, v] 24))
  obtain ⟨a, cap, rfl, _⟩ := id h
  have BB := Hid.mk7 (below_newE (Below.refl w.heap.size w) (.cells #[.int .i64 base, .slice a es.length cap] 24))
  have RDH := Hid.mk7 (Rd.new w (.int .i64 base) (.slice a es.length cap))
  have HTB := Hid.mk7 (hT.later BB.out)
  have HIS := Hid.mk7 (is_any base HV.out hsm tb HTB.out)
  have HSZ := Hid.mk7 (fun W (b : Below (w.alloc (.cells #[.int .i64 base, .slice a es.length cap] 24)).heap.size (w.alloc (.cells #[.int .i64 base, .slice a es.length cap] 24)) W) => size_anyE base (HV.out.later b) hsm tb (HTB.out.later b))
  clear h hT hsm
  have r0 := RDH.out.c0
  have r1 := RDH.out.c1
  by_cases hi : isB base es = true
  · rw [hi] at HIS
    have hd := dl_of hi
    have hlen := hd.len
    have HNM := Hid.mk7 hd.nm
    have HTX := Hid.mk7 hd.sm
    have HBD := Hid.mk7 hd.bd
    have hcl := (cel_len14 hi).2
    have HGD := Hid.mk7 (nm_gd es 0 0 (Int.le_refl _) HNM.out)
    have HNO := Hid.mk7 (fun h => bkV_none (base := base) (es := es) (at' := at') hi h)
    have HBV : Hid (bkV base es at' = bkC base (cel es) (max at' 0).toNat) := by show _ = _; unfold bkV; rw [if_pos hi]
    have hq : hld at' ((cel es).length : Nat) = min (max at' 0) ((cel es).length : Nat) := rfl
    have HHE := Hid.mk7 (fun W => held_any at' ((cel es).length : Nat) W)
    rw [size_of14 hi] at HSZ
    obtain ⟨n, hn⟩ : ∃ n : Nat, (cel es).length = n := ⟨_, rfl⟩
    have HN := Hid.mk7 hn
    rw [hn] at HNO HSZ HHE hcl hq
    obtain ⟨q, hqq⟩ : ∃ q : Int, hld at' n = q := ⟨_, rfl⟩
    rw [hqq] at HHE hq
    have HQ := Hid.mk7 hq
    clear hq
    generalize hRV : bkV base es at' = rv at *
    clear hi hd hn hqq hRV
    go_enter Tryd.func14, Tryd.ntmps14
    go_wp2
    go_step3
    go_wp2_with fail
    refine HIS.out.mono ?_
    rintro e w1 ⟨rfl, b1⟩
    have s1 := HSZ.out _ b1
    have RD1 := Hid.mk7 (RDH.out.later b1)
    clear r0 r1 HIS
    have r0 := RD1.out.c0
    have r1 := RD1.out.c1
    go_wp2_with fail
    refine s1.mono ?_
    rintro e w2 ⟨rfl, b2⟩
    have b12 := b1.trans (b2.mono b1.size)
    have RD2 := Hid.mk7 (RD1.out.later b2)
    clear s1 r0 r1 RD1 b1 b2
    have r0 := RD2.out.c0
    have r1 := RD2.out.c1
    go_wp2_with fail
    refine (HHE.out w2).mono ?_
    rintro e w3 ⟨rfl, e3⟩
    obtain rfl : w2 = w3 := e3.symm
    have s2 := HSZ.out _ b12
    go_wp2_with fail
    refine s2.mono ?_
    rintro e w4 ⟨rfl, b4⟩
    have RD4 := Hid.mk7 (RD2.out.later b4)
    have BB4 := Hid.mk7 (BB.out.trans ((b12.trans (b4.mono b12.size)).mono BB.out.size))
    have HV4 := Hid.mk7 ((HV.out.later b12).later b4)
    clear r0 r1 s2 RD2 RDH HV BB HHE HSZ HTB b12 b4
    have r0 := RD4.out.c0
    have r1 := RD4.out.c1
    have hq := HQ.out
    clear HQ
    have hq2 : (at' ≤ 0 ∧ q = 0) ∨ (0 ≤ at' ∧ at' < n ∧ q = at') ∨ ((n : Int) ≤ at' ∧ q = n) := min_cases14 hq
    clear hq
    by_cases hqn : q = n
    · have HE := Hid.mk7 (HNO.out (by rw [Int.max_def]; split <;> omega))
      subst hqn
      have dq : ((n : Int) == (n : Int)) = true := by simp
      clear hq2
      go_wp2
      try rw [Exit.noGoto_ret]
      go_ret
      exact ⟨ret_intE HE.out.symm, BB4.out⟩
    · obtain ⟨i, rfl⟩ : ∃ i : Nat, q = i := ⟨q.toNat, by omega⟩
      have hin : i < n := by omega
      have him : (max at' 0).toNat = i := by rw [Int.max_def]; split <;> omega
      have HB2 : Hid (bkC base (cel es) i = rv) := by
        show _ = _
        rw [HBV.out, him]
      have dq : ((i : Int) == (n : Int)) = false := by simp; omega
      obtain ⟨_, _, hve, hcap, _, hcells⟩ := id HV4.out
      cases hve
      have HC := Hid.mk7 hcells
      clear hcells HV4 hq2 hqn HBV HNO him
      go_wp2
      go_step3
      go_wp2
      go_loopw [6, 5, 25] (fun pv lv iv wr => ∃ (k : Nat) (pl lf : Int), k ≤ es.length ∧ iv = .int .i64 (k : Nat) ∧ pv = .int .i64 pl ∧ lv = .int .i64 lf ∧ Hid (Bk i es k pl lf) ∧ Hid (Below w4.heap.size w4 wr)) (fun _ _ iv _ => es.length - (intOf iv).toNat)
      case atStart => exact ⟨0, 0, (i : Nat), Nat.zero_le _, rfl, rfl, rfl, bk_start i es, Below.refl _ _⟩
      case round =>
        obtain ⟨k, pl, lf, hk, rfl, rfl, rfl, HM, HB⟩ := hrel
        have RDk := RD4.out.later HB.out
        have r0 := RDk.c0
        have r1 := RDk.c1
        have hl0 := HM.out.l0
        have hl1 := HM.out.le
        by_cases hlt : k < es.length
        · obtain ⟨⟨f, u, T⟩, hr⟩ : ∃ r, es[k]? = some r := ⟨es[k], List.getElem?_eq_getElem hlt⟩
          obtain ⟨g, off, rfl, q0, q1, q2⟩ := HC.out k _ hr
          have c0 := cell_later7 HB.out (Nat.le_refl _) q0
          have c1 := cell_later7 HB.out (Nat.le_refl _) q1
          have c2 := cell_later7 HB.out (Nat.le_refl _) q2
          simp only at c0 c1 c2
          have hmem := List.mem_of_getElem? hr
          have hg := HGD.out _ hmem
          have hT2 := HTX.out _ hmem
          have hbd := HBD.out _ hmem
          simp only at hT2 hbd
          have HR := Hid.mk7 hr
          have HG := Hid.mk7 hg
          have hb2 := HB.out.alloc HB.out.size (.cells #[.int .i64 f, .int .i64 u, .string (cacc T)] 51)
          have RE := Re.new wr (.int .i64 f) (.int .i64 u) (.string (cacc T))
          have hcs : (cacc T).size = T.length := cacc_size T
          clear q0 q1 q2 hr hmem hg RDk
          by_cases hTT : T = []
          · subst hTT
            have hfu : 0 ≤ f ∧ f < u := by
              rcases HG.out with ⟨_, g1, g2⟩ | ⟨g, _, _⟩
              · exact ⟨g1, g2⟩
              · exact absurd rfl g
            have HIT := Hid.mk7 (fun W => oText_v f u (T := []) (x := false) (by simp) W)
            generalize hS : cacc [] = s at *
            clear hS
            go_wp2_with fail
            refine (HIT.out _).mono ?_
            rintro e w5 ⟨rfl, b5⟩
            have hb5 := hb2.trans (b5.mono hb2.size)
            have RE5 := RE.later b5
            have x0 := RE5.c0
            have x1 := RE5.c1
            have x2 := RE5.c2
            clear c0 c1 c2 RE b5 hb2 r0 r1
            go_wp2_with fail
            refine (HIT.out _).mono ?_
            rintro e w6 ⟨rfl, b6⟩
            have hb6 := Hid.mk7 (hb5.trans (b6.mono hb5.size))
            have RE6 := RE5.later b6
            clear x0 x1 x2 RE5 b6 hb5
            have x0 := RE6.c0
            have x1 := RE6.c1
            by_cases h1 : lf < u - f
            · have d1 : decide (lf < u - f) = true := decide_eq_true h1
              have HE : Hid (f + lf = rv) := by show _ = _; rw [← HB2.out]; exact (bk_copy_in HM.out HR.out hfu.1 hfu.2 h1).symm
              go_wp2
              try rw [Exit.noGoto_ret]
              go_ret
              exact ⟨ret_intE HE.out, BB4.out.trans (hb6.out.mono BB4.out.size)⟩
            · have d1 : decide (lf < u - f) = false := decide_eq_false h1
              have HN2 := Hid.mk7 (bk_copy HM.out HR.out hfu.1 hfu.2 (by omega))
              go_wp2
              go_quiet (fail)
              have hb7 := Hid.mk7 (below_drewN hb6.out nq)
              go_wp2
              go_roundw
              case rel => exact ⟨k + 1, _, _, by omega, by go_num, rfl, by go_num, HN2, hb7⟩
              case measure => simp [intOf]; omega
          · have HIT := Hid.mk7 (fun W => oText_v f u (T := T) (x := true) (by simpa using hTT) W)
            have HIN := Hid.mk7 (fun h => bk_text_in (base := base) HM.out HR.out HG.out hTT h)
            have HTK := Hid.mk7 (fun h => bk_text HM.out HR.out HG.out hTT h)
            generalize hS : cacc T = s at *
            rw [← hcs] at HIN HTK
            clear hS
            go_wp2_with fail
            refine (HIT.out _).mono ?_
            rintro e w5 ⟨rfl, b5⟩
            have hb5 := hb2.trans (b5.mono hb2.size)
            have RE5 := RE.later b5
            have x0 := RE5.c0
            have x1 := RE5.c1
            have x2 := RE5.c2
            clear c0 c1 c2 RE b5 hb2 r0 r1
            by_cases h1 : lf < (s.size : Int)
            · have d1 : decide (lf < (s.size : Int)) = true := decide_eq_true h1
              have HE : Hid (pl = rv) := by show _ = _; rw [← HB2.out]; exact (HIN.out h1).symm
              have hb6 := Hid.mk7 hb5
              go_wp2
              try rw [Exit.noGoto_ret]
              go_ret
              exact ⟨ret_intE HE.out, BB4.out.trans (hb6.out.mono BB4.out.size)⟩
            · have d1 : decide (lf < (s.size : Int)) = false := decide_eq_false h1
              have HN2 := Hid.mk7 (HTK.out (by omega))
              go_wp2_with fail
              refine (HIT.out _).mono ?_
              rintro e w6 ⟨rfl, b6⟩
              have hb6 := Hid.mk7 (hb5.trans (b6.mono hb5.size))
              have RE6 := RE5.later b6
              clear x0 x1 x2 RE5 b6 hb5
              have x2 := RE6.c2
              go_wp2
              go_roundw
              case rel => exact ⟨k + 1, _, _, by omega, by go_num, rfl, by go_num, HN2, hb6⟩
              case measure => simp [intOf]; omega
        · obtain rfl : k = es.length := by omega
          exfalso
          have := bk_end HM.out
          have := HN.out
          omega
  · have hi' : isB base es = false := by simpa using hi
    rw [hi'] at HIS
    have hmv : bkV base es at' = 0 := by unfold bkV; rw [if_neg (by simpa using hi')]
    rw [hmv]
    go_enter Tryd.func14, Tryd.ntmps14
    go_wp2
    go_step3
    go_wp2_with fail
    refine HIS.out.mono ?_
    rintro e w1 ⟨rfl, b1⟩
    go_wp2
    try rw [Exit.noGoto_ret]
    go_ret
    exact ⟨rfl, BB.out.trans (b1.mono BB.out.size)⟩
end Go.Proofs.YtelpinngimohoaaDoor
