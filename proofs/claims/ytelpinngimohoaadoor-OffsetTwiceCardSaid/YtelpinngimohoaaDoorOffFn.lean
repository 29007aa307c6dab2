/- offset's held, isText, Stays. -/
import Derived.Test.YtelpinngimohoaaDoorOffRun
namespace Go.Proofs.YtelpinngimohoaaDoor
open Go.RowKit Go.Sort
set_option linter.unusedSimpArgs false
set_option linter.unusedVariables false

set_option maxHeartbeats 400000 in
set_option maxRecDepth 100000 in
theorem held_any (at' most : Int) (w : World) : Calls Tryd.prog 25 #[.int .i64 at', .int .i64 most] w fun e w' => e = .returned (.int .i64 (hld at' most)) ∧ w' = w := by
  go_enter Tryd.func25, Tryd.ntmps25
  go_wp2
  all_goals first
    | (exfalso; omega)
    | (go_ret; exact ⟨ret_intE (by unfold hld; omega), rfl⟩)
set_option maxHeartbeats 400000 in
set_option maxRecDepth 100000 in
theorem oText_any (f t : Int) (s : ByteArray) (w : World) : Calls Tryd.prog 26 #[.agg #[.int .i64 f, .int .i64 t, .string s]] w fun e w' => e = .returned (.bool (decide (s.size ≠ 0))) ∧ Below w.heap.size w w' := by
  have b1 := below_newE (Below.refl w.heap.size w) (.cells #[.int .i64 f, .int .i64 t, .string s] 51)
  by_cases h2 : s.size = 0
  · have hd : decide (s.size ≠ 0) = false := by simpa using h2
    rw [hd]
    obtain rfl := eq_of_size h2
    clear h2 hd
    go_enter Tryd.func26, Tryd.ntmps26
    go_wp2
    go_ret
    exact ⟨rfl, b1⟩
  · have hd : decide (s.size ≠ 0) = true := by simpa using h2
    rw [hd]
    obtain ⟨h3, h4⟩ := size_of_ne h2
    clear h2 hd
    go_enter Tryd.func26, Tryd.ntmps26
    go_wp2
    go_ret
    exact ⟨rfl, b1⟩
theorem oText_v (f t : Int) {T : List UInt8} {x : Bool} (hx : decide (T ≠ []) = x) (w : World) : Calls Tryd.prog 26 #[.agg #[.int .i64 f, .int .i64 t, .string (cacc T)]] w fun e w' => e = .returned (.bool x) ∧ Below w.heap.size w w' := by
  subst hx
  have := oText_any f t (cacc T) w
  rw [cacc_size] at this
  rw [show decide (T ≠ []) = decide (T.length ≠ 0) from by simp]
  exact this
set_option maxHeartbeats 2000000 in
set_option maxRecDepth 100000 in
theorem stays_any {w : World} {v : Value} {es : List El} (base at' : Int) (h : ElAt w v es) (hsm : Sm es 281474976710656) (tb : Nat × Nat) (hT : Tab w tb) :
    Calls Tryd.prog 16 #[.agg #[.int .i64 base, v], .int .i64 at'] w fun e w' => e = .returned (.bool (isB base es && stB es at')) ∧ Below w.heap.size w w' := by
  have HV := Hid.mk7 (h.alloc (.cells #[.int .i64 base, v] 24))
  obtain ⟨a, cap, rfl, _⟩ := id h
  have BB := Hid.mk7 (below_newE (Below.refl w.heap.size w) (.cells #[.int .i64 base, .slice a es.length cap] 24))
  have RDH := Hid.mk7 (Rd.new w (.int .i64 base) (.slice a es.length cap))
  have HIS := Hid.mk7 (is_any base HV.out hsm tb (hT.later BB.out))
  clear h hT
  have r0 := RDH.out.c0
  have r1 := RDH.out.c1
  by_cases hi : isB base es = true
  · rw [hi] at HIS ⊢
    rw [Bool.true_and]
    have hd := dl_of hi
    have hlen := hd.len
    clear hi hd
    go_enter Tryd.func16, Tryd.ntmps16
    go_wp2_with fail
    refine HIS.out.mono ?_
    rintro e w1 ⟨rfl, b1⟩
    have RD1 := Hid.mk7 (RDH.out.later b1)
    have BB1 := Hid.mk7 (BB.out.trans (b1.mono BB.out.size))
    have HV1 := Hid.mk7 (HV.out.later b1)
    clear r0 r1 HIS b1 HV RDH BB
    have r0 := RD1.out.c0
    have r1 := RD1.out.c1
    obtain ⟨_, _, hve, hcap, _, hcells⟩ := id HV1.out
    cases hve
    have HC := Hid.mk7 hcells
    clear hcells HV1
    go_wp2
    go_loopw [13] (fun iv wr => ∃ k : Nat, k ≤ es.length ∧ iv = .int .i64 (k : Nat) ∧ Hid (stB (es.take k) at' = false) ∧ Hid (Below w1.heap.size w1 wr)) (fun iv _ => es.length - (intOf iv).toNat)
    case atStart => exact ⟨0, Nat.zero_le _, rfl, rfl, Below.refl _ _⟩
    case round =>
      obtain ⟨k, hk, rfl, HS, HB⟩ := hrel
      have RDk := RD1.out.later HB.out
      have r0 := RDk.c0
      have r1 := RDk.c1
      by_cases hlt : k < es.length
      · obtain ⟨⟨f, t, T⟩, hr⟩ : ∃ r, es[k]? = some r := ⟨es[k], List.getElem?_eq_getElem hlt⟩
        obtain ⟨g, off, rfl, q0, q1, q2⟩ := HC.out k _ hr
        have c0 := cell_later7 HB.out (Nat.le_refl _) q0
        have c1 := cell_later7 HB.out (Nat.le_refl _) q1
        have c2 := cell_later7 HB.out (Nat.le_refl _) q2
        simp only at c0 c1 c2
        have hb2 := Hid.mk7 (HB.out.alloc HB.out.size (.cells #[.int .i64 f, .int .i64 t, .string (cacc T)] 51))
        have HTK := Hid.mk7 (stB_take (at' := at') hr)
        have HMEM := Hid.mk7 (List.mem_of_getElem? hr)
        clear q0 q1 q2 hr RDk
        generalize hS : cacc T = s at *
        clear hS
        by_cases h1 : f ≤ at'
        · have d1 : decide (f ≤ at') = true := decide_eq_true h1
          by_cases h2 : at' < t
          · have d2 : decide (at' < t) = true := decide_eq_true h2
            have HY : Hid (stB es at' = true) := stB_yes HMEM.out ⟨h1, h2⟩
            clear h1 h2 HTK HMEM
            go_wp2
            go_ret
            exact ⟨ret_boolE HY.out.symm, BB1.out.trans (hb2.out.mono BB1.out.size)⟩
          · have d2 : decide (at' < t) = false := decide_eq_false h2
            have HN : Hid (stB (es.take (k + 1)) at' = false) := by
              show _ = _
              rw [HTK.out, HS.out, Bool.false_or]
              exact decide_eq_false (fun h => h2 h.2)
            clear h1 h2 HTK HMEM
            go_wp2
            go_roundw
            case rel => exact ⟨k + 1, by omega, by go_num, HN, hb2⟩
            case measure => simp [intOf]; omega
        · have d1 : decide (f ≤ at') = false := decide_eq_false h1
          have HN : Hid (stB (es.take (k + 1)) at' = false) := by
            show _ = _
            rw [HTK.out, HS.out, Bool.false_or]
            exact decide_eq_false (fun h => h1 h.1)
          clear h1 HTK HMEM
          go_wp2
          go_roundw
          case rel => exact ⟨k + 1, by omega, by go_num, HN, hb2⟩
          case measure => simp [intOf]; omega
      · obtain rfl : k = es.length := by omega
        have HE : Hid (stB es at' = false) := by show _ = _; rw [← HS.out, List.take_length]
        go_wp2
        go_ret
        exact ⟨ret_boolE HE.out.symm, BB1.out.trans (HB.out.mono BB1.out.size)⟩
  · have hi' : isB base es = false := by simpa using hi
    rw [hi'] at HIS ⊢
    go_enter Tryd.func16, Tryd.ntmps16
    go_wp2_with fail
    refine HIS.out.mono ?_
    rintro e w1 ⟨rfl, b1⟩
    go_wp2
    go_ret
    exact ⟨rfl, BB.out.trans (b1.mono BB.out.size)⟩
end Go.Proofs.YtelpinngimohoaaDoor
