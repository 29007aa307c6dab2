/- offset's held, isText, Stays. offset's Move. offset's Back, Interval. offset's Interval. -/
import Derived.Test.YtmgjfmgkmlfjeaaDoorOffPlainM
import Derived.WalkMore
import Derived.Test.YtmgjfmgkmlfjeaaDoorTurnsP
import Derived.BigQuiet
import Derived.Test.YtmgjfmgkmlfjeaaDoorIvMem
import Derived.Test.YtmgjfmgkmlfjeaaDoorDelKeep
namespace Go.Proofs.YtmgjfmgkmlfjeaaDoor
open Go.RowKit Go.Sort
set_option linter.unusedSimpArgs false
set_option linter.unusedVariables false

set_option maxHeartbeats 400000 in
set_option maxRecDepth 100000 in
theorem held_any (at' most : Int) (w : World) : Calls Tryd.prog 54 #[.int .i64 at', .int .i64 most] w fun e w' => e = .returned (.int .i64 (hld at' most)) ∧ w' = w := by
  go_enter Tryd.func54, Tryd.ntmps54
  go_wp2
  all_goals first
    | (exfalso; omega)
    | (go_ret; exact ⟨ret_intE (by unfold hld; omega), rfl⟩)
set_option maxHeartbeats 400000 in
set_option maxRecDepth 100000 in
theorem oText_any (f t : Int) (s : ByteArray) (w : World) : Calls Tryd.prog 55 #[.agg #[.int .i64 f, .int .i64 t, .string s]] w fun e w' => e = .returned (.bool (decide (s.size ≠ 0))) ∧ Below w.heap.size w w' := by
  have b1 := below_newE (Below.refl w.heap.size w) (.cells #[.int .i64 f, .int .i64 t, .string s] 50)
  by_cases h2 : s.size = 0
  · have hd : decide (s.size ≠ 0) = false := by simpa using h2
    rw [hd]
    obtain rfl := eq_of_size h2
    clear h2 hd
    go_enter Tryd.func55, Tryd.ntmps55
    go_wp2
    go_ret
    exact ⟨rfl, b1⟩
  · have hd : decide (s.size ≠ 0) = true := by simpa using h2
    rw [hd]
    obtain ⟨h3, h4⟩ := size_of_ne h2
    clear h2 hd
    go_enter Tryd.func55, Tryd.ntmps55
    go_wp2
    go_ret
    exact ⟨rfl, b1⟩
theorem oText_v (f t : Int) {T : List UInt8} {x : Bool} (hx : decide (T ≠ []) = x) (w : World) : Calls Tryd.prog 55 #[.agg #[.int .i64 f, .int .i64 t, .string (cacc T)]] w fun e w' => e = .returned (.bool x) ∧ Below w.heap.size w w' := by
  subst hx
  have := oText_any f t (cacc T) w
  rw [cacc_size] at this
  rw [show decide (T ≠ []) = decide (T.length ≠ 0) from by simp]
  exact this
end Go.Proofs.YtmgjfmgkmlfjeaaDoor
namespace Go.Proofs.YtmgjfmgkmlfjeaaDoor
open Go.RowKit Go.Sort
set_option linter.unusedSimpArgs false
set_option linter.unusedVariables false

theorem cel_len14 {base : Int} {es : List El} (hi : isB base es = true) : szE es = ((cel es).length : Nat) ∧ (cel es).length ≤ 20000 := by
  have hd := dl_of hi
  have h1 := cel_size es 0 0 hd.nm
  have h2 := hd.sz
  rw [← szE_two] at h2
  exact ⟨h1.symm, by omega⟩
/-- What Move answers, out of what its loop holds. -/
theorem mv_ret {p : Int} {es : List El} {after : Bool} {m t : Int} (h1 : (mvN p (cel es) : Int) = m) (h2 : (frK p (cel es) : Int) = m + t) : (if after then ((frK p (cel es) : Nat) : Int) else ((mvN p (cel es) : Nat) : Int)) = if after then m + t else m := by
  rw [h1, h2]
set_option maxHeartbeats 4000000 in
set_option maxRecDepth 100000 in
theorem move_any {w : World} {v : Value} {es : List El} (base at' : Int) (after : Bool) (h : ElAt w v es) (hsm : Sm es 281474976710656) (tb : Nat × Nat) (hT : Tab w tb) :
    Calls Tryd.prog 43 #[.agg #[.int .i64 base, v], .int .i64 at', .bool after] w fun e w' => e = .returned (.int .i64 (mvV base es at' after)) ∧ Below w.heap.size w w' := by
  have HV := Hid.mk7 (h.alloc (.cells #[.int .i64 base, v] 27))
  obtain ⟨a, cap, rfl, _⟩ := id h
  have BB := Hid.mk7 (below_newE (Below.refl w.heap.size w) (.cells #[.int .i64 base, .slice a es.length cap] 27))
  have RDH := Hid.mk7 (Rd.new w (.int .i64 base) (.slice a es.length cap))
  have HIS := Hid.mk7 (is_any base HV.out hsm tb (hT.later BB.out))
  clear h hT
  have r0 := RDH.out.c0
  have r1 := RDH.out.c1
  by_cases hi : isB base es = true
  · rw [hi] at HIS
    have hd := dl_of hi
    have hlen := hd.len
    have hb0 := hd.b0
    have hb1 := hd.b1
    have HNM := Hid.mk7 hd.nm
    have HTX := Hid.mk7 hd.sm
    have hcl := (cel_len14 hi).2
    have HHE := Hid.mk7 (fun W => held_any at' base W)
    have HGD := Hid.mk7 (nm_gd es 0 0 (Int.le_refl _) HNM.out)
    have hmv : mvV base es at' after = if after then ((frK (hld at' base) (cel es) : Nat) : Int) else ((mvN (hld at' base) (cel es) : Nat) : Int) := by unfold mvV; rw [if_pos hi]
    have hp0 : 0 ≤ hld at' base ∧ hld at' base ≤ base := by unfold hld; omega
    generalize hld at' base = p at *
    rw [hmv]
    have HRET := Hid.mk7 (fun (m t : Int) (h : (mvN p (cel es) : Int) = m ∧ (frK p (cel es) : Int) = m + t) => mv_ret (after := after) h.1 h.2)
    have HRM := Hid.mk7 (fun (k : Nat) (m t : Int) (h : Mv p es k m t) => Int.le_trans h.room (Int.ofNat_le.2 hcl))
    generalize hRV : (if after then ((frK p (cel es) : Nat) : Int) else ((mvN p (cel es) : Nat) : Int)) = rv at *
    clear hi hd hmv hRV hcl
    go_enter Tryd.func43, Tryd.ntmps43
    go_wp2
    go_step3
    go_wp2_with fail
    refine HIS.out.mono ?_
    rintro e w1 ⟨rfl, b1⟩
    have RD1 := Hid.mk7 (RDH.out.later b1)
    have BB1 := Hid.mk7 (BB.out.trans (b1.mono BB.out.size))
    have HV1 := Hid.mk7 (HV.out.later b1)
    clear r0 r1 HIS b1 HV RDH BB
    have r0 := RD1.out.c0
    have r1 := RD1.out.c1
    obtain ⟨_, _, hve, hcap, _, hcells⟩ := id HV1.out
    cases hve
    have HC := Hid.mk7 hcells
    clear hcells HV1
    go_wp2_with fail
    refine (HHE.out w1).mono ?_
    rintro e w2 ⟨rfl, e2⟩
    obtain rfl : w1 = w2 := e2.symm
    clear HHE
    go_wp2
    go_step3
    go_wp2
    go_loopw [7, 8, 21] (fun mv tv iv wr => ∃ (k : Nat) (m t : Int), k ≤ es.length ∧ iv = .int .i64 (k : Nat) ∧ mv = .int .i64 m ∧ tv = .int .i64 t ∧ Hid (Mv p es k m t) ∧ Hid (Below w1.heap.size w1 wr)) (fun _ _ iv _ => es.length - (intOf iv).toNat)
    case atStart => exact ⟨0, 0, 0, Nat.zero_le _, rfl, rfl, rfl, mv_start p es, Below.refl _ _⟩
    case round =>
      obtain ⟨k, m, t, hk, rfl, rfl, rfl, HM, HB⟩ := hrel
      have RDk := RD1.out.later HB.out
      have r0 := RDk.c0
      have r1 := RDk.c1
      have hm0 := HM.out.m0
      have ht0 := HM.out.t0
      have hrm := HRM.out k m t HM.out
      by_cases hlt : k < es.length
      · obtain ⟨⟨f, u, T⟩, hr⟩ : ∃ r, es[k]? = some r := ⟨es[k], List.getElem?_eq_getElem hlt⟩
        obtain ⟨g, off, rfl, q0, q1, q2⟩ := HC.out k _ hr
        have c0 := cell_later7 HB.out (Nat.le_refl _) q0
        have c1 := cell_later7 HB.out (Nat.le_refl _) q1
        have c2 := cell_later7 HB.out (Nat.le_refl _) q2
        simp only at c0 c1 c2
        have hmem := List.mem_of_getElem? hr
        have hg := HGD.out _ hmem
        have hT2 := HTX.out _ hmem
        simp only at hT2
        have HR := Hid.mk7 hr
        have HG := Hid.mk7 hg
        have hb2 := HB.out.alloc HB.out.size (.cells #[.int .i64 f, .int .i64 u, .string (cacc T)] 50)
        have RE := Re.new wr (.int .i64 f) (.int .i64 u) (.string (cacc T))
        clear q0 q1 q2 hr hmem hg RDk
        by_cases hTT : T = []
        · subst hTT
          have hfu : 0 ≤ f ∧ f < u := by
            rcases HG.out with ⟨_, g1, g2⟩ | ⟨g, _, _⟩
            · exact ⟨g1, g2⟩
            · exact absurd rfl g
          have HIT := Hid.mk7 (fun W => oText_v f u (T := []) (x := false) (by simp) W)
          generalize hS : cacc [] = s at *
          clear hS
          go_wp2_with fail
          refine (HIT.out _).mono ?_
          rintro e w3 ⟨rfl, b3⟩
          have hb3 := Hid.mk7 (hb2.trans (b3.mono hb2.size))
          have RE3 := RE.later b3
          have x0 := RE3.c0
          have x1 := RE3.c1
          clear c0 c1 c2 RE RE3 b3 hb2 r0 r1
          by_cases h1 : p ≤ f
          · have d1 : decide (p ≤ f) = true := decide_eq_true h1
            have HE := Hid.mk7 (HRET.out m t (mv_stop HM.out HNM.out HR.out h1))
            cases after
            · go_wp2
              try rw [Exit.noGoto_ret]
              go_ret
              exact ⟨ret_intE HE.out.symm, BB1.out.trans (hb3.out.mono BB1.out.size)⟩
            · go_wp2
              try rw [Exit.noGoto_ret]
              go_ret
              exact ⟨ret_intE HE.out.symm, BB1.out.trans (hb3.out.mono BB1.out.size)⟩
          · have d1 : decide (p ≤ f) = false := decide_eq_false h1
            by_cases h2 : p < u
            · have d2 : decide (p < u) = true := decide_eq_true h2
              have hmd := mv_mid HM.out HNM.out HR.out (by omega) h2
              have HE := Hid.mk7 (HRET.out (m + t + p - f) 0 ⟨by rw [hmd.1]; omega, by rw [hmd.2]; omega⟩)
              clear hmd
              cases after
              · go_wp2
                try rw [Exit.noGoto_ret]
                all_goals first
                  | (exfalso; omega)
                  | (go_ret; exact ⟨ret_intE (by rw [HE.out]; simp; try omega), BB1.out.trans (hb3.out.mono BB1.out.size)⟩)
              · go_wp2
                try rw [Exit.noGoto_ret]
                all_goals first
                  | (exfalso; omega)
                  | (go_ret; exact ⟨ret_intE (by rw [HE.out]; simp; try omega), BB1.out.trans (hb3.out.mono BB1.out.size)⟩)
            · have d2 : decide (p < u) = false := decide_eq_false h2
              have HN := Hid.mk7 (mv_copy HM.out HR.out HG.out (by omega))
              go_wp2
              all_goals first
                | (exfalso; omega)
                | skip
              go_roundw
              case rel => exact ⟨k + 1, _, _, by omega, by go_num, by go_num, rfl, HN, hb3⟩
              case measure => simp [intOf]; omega
        · have HIT := Hid.mk7 (fun W => oText_v f u (T := T) (x := true) (by simpa using hTT) W)
          have HN := Hid.mk7 (mv_text HM.out HR.out HG.out hTT)
          have hcs : (cacc T).size = T.length := cacc_size T
          have hrm2 := HRM.out _ _ _ HN.out
          generalize hS : cacc T = s at *
          rw [← hcs] at HN hrm2
          clear hS
          go_wp2_with fail
          refine (HIT.out _).mono ?_
          rintro e w3 ⟨rfl, b3⟩
          have hb3 := Hid.mk7 (hb2.trans (b3.mono hb2.size))
          have RE3 := RE.later b3
          have x2 := RE3.c2
          clear c0 c1 c2 RE RE3 b3 hb2 r0 r1
          go_wp2
          go_roundw
          case rel => exact ⟨k + 1, _, _, by omega, by go_num, rfl, by go_num, HN, hb3⟩
          case measure => simp [intOf]; omega
      · obtain rfl : k = es.length := by omega
        have HE := Hid.mk7 (HRET.out m t (mv_end HM.out))
        cases after
        · go_wp2
          try rw [Exit.noGoto_ret]
          go_ret
          exact ⟨ret_intE HE.out.symm, BB1.out.trans (HB.out.mono BB1.out.size)⟩
        · go_wp2
          try rw [Exit.noGoto_ret]
          go_ret
          exact ⟨ret_intE HE.out.symm, BB1.out.trans (HB.out.mono BB1.out.size)⟩
  · have hi' : isB base es = false := by simpa using hi
    rw [hi'] at HIS
    have hmv : mvV base es at' after = 0 := by unfold mvV; rw [if_neg (by simpa using hi')]
    rw [hmv]
    go_enter Tryd.func43, Tryd.ntmps43
    go_wp2
    go_step3
    go_wp2_with fail
    refine HIS.out.mono ?_
    rintro e w1 ⟨rfl, b1⟩
    go_wp2
    try rw [Exit.noGoto_ret]
    go_ret
    exact ⟨rfl, BB.out.trans (b1.mono BB.out.size)⟩
end Go.Proofs.YtmgjfmgkmlfjeaaDoor
namespace Go.Proofs.YtmgjfmgkmlfjeaaDoor
open Go.RowKit Go.Sort
set_option linter.unusedSimpArgs false
set_option linter.unusedVariables false

theorem size_of14 {base : Int} {es : List El} (hi : isB base es = true) : (if isB base es then szE es else 0) = ((cel es).length : Nat) := by rw [if_pos hi, (cel_len14 hi).1]
theorem min_cases14 {a q : Int} {n : Nat} (h : q = min (max a 0) (n : Int)) : (a ≤ 0 ∧ q = 0) ∨ (0 ≤ a ∧ a < n ∧ q = a) ∨ ((n : Int) ≤ a ∧ q = n) := by
  rw [h, Int.min_def, Int.max_def]
  repeat' split
  all_goals omega
end Go.Proofs.YtmgjfmgkmlfjeaaDoor
namespace Go.Proofs.YtmgjfmgkmlfjeaaDoor
open Go.RowKit Go.Sort
set_option linter.unusedSimpArgs false
set_option linter.unusedVariables false

theorem ret_iv14 {a b a' b' : Int} (h1 : a = a') (h2 : b = b') : Ending.returned (.agg #[.int .i64 a, .int .i64 b]) = .returned (.agg #[.int .i64 a', .int .i64 b']) := by rw [h1, h2]
set_option maxHeartbeats 2000000 in
set_option maxRecDepth 100000 in
theorem interval_any {w : World} {v : Value} {es : List El} (base f t : Int) (h : ElAt w v es) (hsm : Sm es 281474976710656) (tb : Nat × Nat) (hT : Tab w tb) :
    Calls Tryd.prog 27 #[.agg #[.int .i64 base, v], .agg #[.int .i64 f, .int .i64 t]] w fun e w' => e = .returned (.agg #[.int .i64 (mvV base es f true), .int .i64 (max (mvV base es f true) (mvV base es t false))]) ∧ Below w.heap.size w w' := by
  obtain ⟨a, cap, rfl, _⟩ := id h
  obtain ⟨W1, hW1⟩ : ∃ W1, W1 = w.alloc (.cells #[.int .i64 base, .slice a es.length cap] 27) := ⟨_, rfl⟩
  obtain ⟨W2, hW2⟩ : ∃ W2, W2 = W1.alloc (.cells #[.int .i64 f, .int .i64 t] 29) := ⟨_, rfl⟩
  obtain ⟨W3, hW3⟩ : ∃ W3, W3 = W2.alloc (.cells #[.int .i64 0, .int .i64 0] 29) := ⟨_, rfl⟩
  have s1 : W1.heap.size = w.heap.size + 1 := by rw [hW1]; simp
  have s2 : W2.heap.size = w.heap.size + 1 + 1 := by rw [hW2]; simp [s1]
  have b1 : Below w.heap.size w W1 := by rw [hW1]; exact below_newE (Below.refl _ _) _
  have b2 : Below w.heap.size w W2 := by rw [hW2]; exact b1.alloc b1.size _
  have b3 : Below w.heap.size w W3 := by rw [hW3]; exact b2.alloc b2.size _
  have d1 : Rd W1 w.heap.size (.int .i64 base) (.slice a es.length cap) := by rw [hW1]; exact Rd.new w _ _
  have d3 : Rd W3 w.heap.size (.int .i64 base) (.slice a es.length cap) := by rw [hW3, hW2]; exact (d1.alloc _).alloc _
  have v2 : Rv W2 (w.heap.size + 1) (.int .i64 f) (.int .i64 t) := by rw [hW2]; exact Rv.new' s1.symm _ _
  have v3 : Rv W3 (w.heap.size + 1) (.int .i64 f) (.int .i64 t) := by rw [hW3]; exact v2.alloc _
  have z3 : Rv W3 (w.heap.size + 1 + 1) (.int .i64 0) (.int .i64 0) := by rw [hW3]; exact Rv.new' s2.symm _ _
  have HV := Hid.mk7 (h.later b3)
  have HTB := Hid.mk7 (hT.later b3)
  have HM := Hid.mk7 (move_any base f true HV.out hsm tb HTB.out)
  have HM2 := Hid.mk7 (fun W (b : Below W3.heap.size W3 W) => move_any base t false (HV.out.later b) hsm tb (HTB.out.later b))
  have D3 := Hid.mk7 d3
  have V3 := Hid.mk7 v3
  have Z3 := Hid.mk7 z3
  have B3 := Hid.mk7 b3
  have r0 := d3.c0
  have r1 := d3.c1
  have x0 := v3.c0
  have x1 := v3.c1
  clear s1 s2 b1 b2 b3 d1 d3 v2 v3 z3 h hT hsm HV HTB
  generalize mvV base es f true = A at *
  generalize mvV base es t false = B at *
  go_enter Tryd.func27, Tryd.ntmps27
  go_upto_region 1 with fail
  rw [← hW1, ← hW2, ← hW3]
  clear hW1 hW2 hW3
  go_wp2_with fail
  refine HM.out.mono ?_
  rintro e w4 ⟨rfl, b4⟩
  have D4 := Hid.mk7 (D3.out.later b4)
  have V4 := Hid.mk7 (V3.out.later b4)
  have Z4 := Hid.mk7 (Z3.out.later b4)
  have B4 := Hid.mk7 (B3.out.trans (b4.mono B3.out.size))
  clear r0 r1 x0 x1 D3 V3 Z3 B3 HM
  have r0 := D4.out.c0
  have r1 := D4.out.c1
  have x0 := V4.out.c0
  have x1 := V4.out.c1
  go_wp2_with fail
  refine (HM2.out w4 b4).mono ?_
  rintro e w5 ⟨rfl, b5⟩
  have Z5 := Hid.mk7 (Z4.out.later b5)
  have B5 := Hid.mk7 (B4.out.trans (b5.mono B4.out.size))
  clear r0 r1 x0 x1 D4 V4 Z4 B4 HM2 b4
  have fz := Z5.out.fz
  have z0 := Z5.out.c0
  have z1 := Z5.out.c1
  have hlt := Z5.out.lt
  go_wp2
  all_goals
    refine bodyPost_ret (results_iv rfl _ _ (w.heap.size + 1 + 1) _ _ rfl (Z5.out.set _ _)) rfl ?_
    exact ⟨ret_iv14 rfl (by omega), below_set2 B5.out (by omega) _ _⟩
end Go.Proofs.YtmgjfmgkmlfjeaaDoor
