/- offset's held, isText, Stays. offset's Move. offset's Back, Interval. offset's Interval. -/
import Derived.Test.YtafhogfbjklboaaDoorOffPlainM
import Derived.WalkMore
import Derived.Test.YtafhogfbjklboaaDoorTurnsP
import Derived.BigQuiet
import Derived.Test.YtafhogfbjklboaaDoorIvMem
import Derived.Test.YtafhogfbjklboaaDoorDelKeep
namespace Go.Proofs.YtafhogfbjklboaaDoor
open Go.RowKit Go.Sort
set_option linter.unusedSimpArgs false
set_option linter.unusedVariables false

set_option maxHeartbeats 400000 in
set_option maxRecDepth 100000 in
theorem held_any (at' most : Int) (w : World) : Calls Tryd.prog 52 #[.int .i64 at', .int .i64 most] w fun e w' => e = .returned (.int .i64 (hld at' most)) ∧ w' = w := by
  go_enter Tryd.func52, Tryd.ntmps52
  go_wp2
  all_goals first
    | (exfalso; omega)
    | (go_ret; exact ⟨ret_intE (by unfold hld; omega), rfl⟩)
set_option maxHeartbeats 400000 in
set_option maxRecDepth 100000 in
theorem oText_any (f t : Int) (s : ByteArray) (w : World) : Calls Tryd.prog 53 #[.agg #[.int .i64 f, .int .i64 t, .string s]] w fun e w' => e = .returned (.bool (decide (s.size ≠ 0))) ∧ Below w.heap.size w w' := by
  have b1 := below_newE (Below.refl w.heap.size w) (.cells #[.int .i64 f, .int .i64 t, .string s] 55)
  by_cases h2 : s.size = 0
  · have hd : decide (s.size ≠ 0) = false := by simpa using h2
    rw [hd]
    obtain rfl := eq_of_size h2
    clear h2 hd
    go_enter Tryd.func53, Tryd.ntmps53
    go_wp2
    go_ret
    exact ⟨rfl, b1⟩
  · have hd : decide (s.size ≠ 0) = true := by simpa using h2
    rw [hd]
    obtain ⟨h3, h4⟩ := size_of_ne h2
    clear h2 hd
    go_enter Tryd.func53, Tryd.ntmps53
    go_wp2
    go_ret
    exact ⟨rfl, b1⟩
theorem oText_v (f t : Int) {T : List UInt8} {x : Bool} (hx : decide (T ≠ []) = x) (w : World) : Calls Tryd.prog 53 #[.agg #[.int .i64 f, .int .i64 t, .string (cacc T)]] w fun e w' => e = .returned (.bool x) ∧ Below w.heap.size w w' := by
  subst hx
  have := oText_any f t (cacc T) w
  rw [cacc_size] at this
  rw [show decide (T ≠ []) = decide (T.length ≠ 0) from by simp]
  exact this
end Go.Proofs.YtafhogfbjklboaaDoor
namespace Go.Proofs.YtafhogfbjklboaaDoor
open Go.RowKit Go.Sort
set_option linter.unusedSimpArgs false
set_option linter.unusedVariables false

theorem cel_len14 {base : Int} {es : List El} (hi : isB base es = true) : szE es = ((cel es).length : Nat) ∧ (cel es).length ≤ 20000 := by
  have hd := dl_of hi
  have h1 := cel_size es 0 0 hd.nm
  have h2 := hd.sz
  rw [← szE_two] at h2
  exact ⟨h1.symm, by omega⟩
/-- What Move answers, out of what its loop holds. -/
theorem mv_ret {p : Int} {es : List El} {after : Bool} {m t : Int} (h1 : (mvN p (cel es) : Int) = m) (h2 : (frK p (cel es) : Int) = m + t) : (if after then ((frK p (cel es) : Nat) : Int) else ((mvN p (cel es) : Nat) : Int)) = if after then m + t else m := by
  rw [h1, h2]
set_option maxHeartbeats 4000000 in
set_option maxRecDepth 100000 in
theorem move_any {w : World} {v : Value} {es : List El} (base at' : Int) (after : Bool) (h : ElAt w v es) (hsm : Sm es 281474976710656) (tb : Nat × Nat) (hT : Tab w tb) :
    Calls Tryd.prog 34 #[.agg #[.int .i64 base, v], .int .i64 at', .bool after] w fun e w' => e = .returned (.int .i64 (mvV base es at' after)) ∧ Below w.heap.size w w' := by
  have HV := Hid.mk7 (h.alloc (.cells #[.int .i64 base, v] 25))
  obtain ⟨a, cap, rfl, _⟩ := id h
  have BB := Hid.mk7 (below_newE (Below.refl w.heap.size w) (.cells #[.int .i64 base, .slice a es.length cap] 25))
  have RDH := Hid.mk7 (Rd.new w (.int .i64 base) (.slice a es.length cap))
  have HIS := Hid.mk7 (is_any base HV.out hsm tb (hT.later BB.out))
  clear h hT
  have r0 := RDH.out.c0
  have r1 := RDH.out.c1
  by_cases hi : isB base es = true
  · rw [hi] at HIS
    have hd := dl_of hi
    have hlen := hd.len
    have hb0 := hd.b0
    have hb1 := hd.b1
    have HNM := Hid.mk7 hd.nm
    have HTX := Hid.mk7 hd.sm
    have hcl := (cel_len14 hi).2
    have HHE := Hid.mk7 (fun W => held_any at' base W)
    have HGD := Hid.mk7 (nm_gd es 0 0 (Int.le_refl _) HNM.out)
    have hmv : mvV base es at' after = if after then ((frK (hld at' base) (cel es) : Nat) : Int) else ((mvN (hld at' base) (cel es) : Nat) : Int) := by unfold mvV; rw [if_pos hi]
    have hp0 : 0 ≤ hld at' base ∧ hld at' base ≤ base := by unfold hld; omega
    generalize hld at' base = p at *
    rw [hmv]
    have HRET := Hid.mk7 (fun (m t : Int) (h : (mvN p (cel es) : Int) = m ∧ (frK p (cel es) : Int) = m + t) => mv_ret (after := after) h.1 h.2)
    have HRM := Hid.mk7 (fun (k : Nat) (m t : Int) (h : Mv p es k m t) => Int.le_trans h.room (Int.ofNat_le.2 hcl))
    generalize hRV : (if after then ((frK p (cel es) : Nat) : Int) else ((mvN p (cel es) : Nat) : Int)) = rv at *
    clear hi hd hmv hRV hcl
    go_enter Tryd.func34, Tryd.ntmps34
    go_wp2
    go_step3
    go_wp2_with fail
    refine HIS.out.mono ?_
    rintro e w1 ⟨rfl, b1⟩
    have RD1 := Hid.mk7 (RDH.out.later b1)
    have BB1 := Hid.mk7 (BB.out.trans (b1.mono BB.out.size))
    have HV1 := Hid.mk7 (HV.out.later b1)
    clear r0 r1 HIS b1 HV RDH BB
    have r0 := RD1.out.c0
    have r1 := RD1.out.c1
    obtain ⟨_, _, hve, hcap, _, hcells⟩ := id HV1.out
    cases hve
    have HC := Hid.mk7 hcells
    clear hcells HV1
    go_wp2_with fail
    refine (HHE.out w1).mono ?_
    rintro e w2 ⟨rfl, e2⟩
    obtain rfl : w1 = w2 := e2.symm
    clear HHE
    go_wp2
    go_step3
    go_wp2
    go_loopw [7, 8, 21] (fun mv tv iv wr => ∃ (k : Nat) (m t : Int), k ≤ es.length ∧ iv = .int .i64 (k : Nat) ∧ mv = .int .i64 m ∧ tv = .int .i64 t ∧ Hid (Mv p es k m t) ∧ Hid (Below w1.heap.size w1 wr)) (fun _ _ iv _ => es.length - (intOf iv).toNat)
    case atStart => exact ⟨0, 0, 0, Nat.zero_le _, rfl, rfl, rfl, mv_start p es, Below.refl _ _⟩
    case round =>
      obtain ⟨k, m, t, hk, rfl, rfl, rfl, HM, HB⟩ := hrel
      have RDk := RD1.out.later HB.out
      have r0 := RDk.c0
      have r1 := RDk.c1
      have hm0 := HM.out.m0
      have ht0 := HM.out.t0
      have hrm := HRM.out k m t HM.out
      by_cases hlt : k < es.length
      · obtain ⟨⟨f, u, T⟩, hr⟩ : ∃ r, es[k]? = some r := ⟨es[k], List.getElem?_eq_getElem hlt⟩
        obtain ⟨g, off, rfl, q0, q1, q2⟩ := HC.out k _ hr
        have c0 := cell_later7 HB.out (Nat.le_refl _) q0
        have c1 := cell_later7 HB.out (Nat.le_refl _) q1
        have c2 := cell_later7 HB.out (Nat.le_refl _) q2
        simp only at c0 c1 c2
        have hmem := List.mem_of_getElem? hr
        have hg := HGD.out _ hmem
        have hT2 := HTX.out _ hmem
        simp only at hT2
        have HR := Hid.mk7 hr
        have HG := Hid.mk7 hg
        have hb2 := HB.out.alloc HB.out.size (.cells #[.int .i64 f, .int .i64 u, .string (cacc T)] 55)
        have RE := Re.new wr (.int .i64 f) (.int .i64 u) (.string (cacc T))
        clear q0 q1 q2 hr hmem hg RDk
        by_cases hTT : T = []
        · subst hTT
          have hfu : 0 ≤ f ∧ f < u := by
            rcases HG.out with ⟨_, g1, g2⟩ | ⟨g, _, _⟩
            · exact ⟨g1, g2⟩
            · exact absurd rfl g
          have HIT := Hid.mk7 (fun W => oText_v f u (T := []) (x := false) (by simp) W)
          generalize hS : cacc [] = s at *
          clear hS
          go_wp2_with fail
          refine (HIT.out _).mono ?_
          rintro e w3 ⟨rfl, b3⟩
          have hb3 := Hid.mk7 (hb2.trans (b3.mono hb2.size))
          have RE3 := RE.later b3
          have x0 := RE3.c0
          have x1 := RE3.c1
          clear c0 c1 c2 RE RE3 b3 hb2 r0 r1
          by_cases h1 : p ≤ f
          · have d1 : decide (p ≤ f) = true := decide_eq_true h1
            have HE := Hid.mk7 (HRET.out m t (mv_stop HM.out HNM.out HR.out h1))
            cases after
            · go_wp2
              try rw [Exit.noGoto_ret]
              go_ret
              exact ⟨ret_intE HE.out.symm, BB1.out.trans (hb3.out.mono BB1.out.size)⟩
            · go_wp2
              try rw [Exit.noGoto_ret]
              go_ret
              exact ⟨ret_intE HE.out.symm, BB1.out.trans (hb3.out.mono BB1.out.size)⟩
          · have d1 : decide (p ≤ f) = false := decide_eq_false h1
            by_cases h2 : p < u
            · have d2 : decide (p < u) = true := decide_eq_true h2
              have hmd := mv_mid HM.out HNM.out HR.out (by omega) h2
              have HE := Hid.mk7 (HRET.out (m + t + p - f) 0 ⟨by rw [hmd.1]; omega, by rw [hmd.2]; omega⟩)
              clear hmd
              cases after
              · go_wp2
                try rw [Exit.noGoto_ret]
                all_goals first
                  | (exfalso; omega)
                  | (go_ret; exact ⟨ret_intE (by rw [HE.out]; simp; try omega), BB1.out.trans (hb3.out.mono BB1.out.size)⟩)
              · go_wp2
                try rw [Exit.noGoto_ret]
                all_goals first
                  | (exfalso; omega)
                  | (go_ret; exact ⟨ret_intE (by rw [HE.out]; simp; try omega), BB1.out.trans (hb3.out.mono BB1.out.size)⟩)
            · have d2 : decide (p < u) = false := decide_eq_false h2
              have HN := Hid.mk7 (mv_copy HM.out HR.out HG.out (by omega))
              go_wp2
              all_goals first
                | (exfalso; omega)
                | skip
              go_roundw
              case rel => exact ⟨k + 1, _, _, by omega, by go_num, by go_num, rfl, HN, hb3⟩
              case measure => simp [intOf]; omega
        · have HIT := Hid.mk7 (fun W => oText_v f u (T := T) (x := true) (by simpa using hTT) W)
          have HN := Hid.mk7 (mv_text HM.out HR.out HG.out hTT)
          have hcs : (cacc T).size = T.length := cacc_size T
          have hrm2 := HRM.out _ _ _ HN.out
          generalize hS : cacc T = s at *
          rw [← hcs] at HN hrm2
          clear hS
          go_wp2_with fail
          refine (HIT.out _).mono ?_
          rintro e w3 ⟨rfl, b3⟩
          have hb3 := Hid.mk7 (hb2.trans (b3.mono hb2.size))
          have RE3 := RE.later b3
          have x2 := RE3.c2
          clear c0 c1 c2 RE RE3 b3 hb2 r0 r1
          go_wp2
          go_roundw
          case rel => exact ⟨k + 1, _, _, by omega, by go_num, rfl, by go_num, HN, hb3⟩
          case measure => simp [intOf]; omega
      · obtain rfl : k = es.length := by omega
        have HE := Hid.mk7 (HRET.out m t (mv_end HM.out))
        cases after
        · go_wp2
          try rw [Exit.noGoto_ret]
          go_ret
          exact ⟨ret_intE HE.out.symm, BB1.out.trans (HB.out.mono BB1.out.size)⟩
        · go_wp2
          try rw [Exit.noGoto_ret]
          go_ret
          exact ⟨ret_intE HE.out.symm, BB1.out.trans (HB.out.mono BB1.out.size)⟩
  · have hi' : isB base es = false := by simpa using hi
    rw [hi'] at HIS
    have hmv : mvV base es at' after = 0 := by unfold mvV; rw [if_neg (by simpa using hi')]
    rw [hmv]
    go_enter Tryd.func34, Tryd.ntmps34
    go_wp2
    go_step3
    go_wp2_with fail
    refine HIS.out.mono ?_
    rintro e w1 ⟨rfl, b1⟩
    go_wp2
    try rw [Exit.noGoto_ret]
    go_ret
    exact ⟨rfl, BB.out.trans (b1.mono BB.out.size)⟩
end Go.Proofs.YtafhogfbjklboaaDoor
namespace Go.Proofs.YtafhogfbjklboaaDoor
open Go.RowKit Go.Sort
set_option linter.unusedSimpArgs false
set_option linter.unusedVariables false

theorem size_of14 {base : Int} {es : List El} (hi : isB base es = true) : (if isB base es then szE es else 0) = ((cel es).length : Nat) := by rw [if_pos hi, (cel_len14 hi).1]
theorem min_cases14 {a q : Int} {n : Nat} (h : q = min (max a 0) (n : Int)) : (a ≤ 0 ∧ q = 0) ∨ (0 ≤ a ∧ a < n ∧ q = a) ∨ ((n : Int) ≤ a ∧ q = n) := by
  rw [h, Int.min_def, Int.max_def]
  repeat' split
  all_goals omega
end Go.Proofs.YtafhogfbjklboaaDoor
namespace Go.Proofs.YtafhogfbjklboaaDoor
open Go.RowKit Go.Sort
set_option linter.unusedSimpArgs false
set_option linter.unusedVariables false

theorem ret_iv14 {a b a' b' : Int} (h1 : a = a') (h2 : b = b') : Ending.returned (.agg #[.int .i64 a, .int .i64 b]) = .returned (.agg #[.int .i64 a', .int .i64 b']) := by rw [h1, h2]
end Go.Proofs.YtafhogfbjklboaaDoor
