/- palinodelaw16's few. -/
import Derived.Test.YtafhogfbjklboaaDoorDelRefSame
import Derived.Test.YtafhogfbjklboaaDoorDelRefIs
import Derived.Test.YtafhogfbjklboaaDoorDelHelp
namespace Go.Proofs.YtafhogfbjklboaaDoor
open Go.RowKit Go.Sort Go.Lib
set_option linter.unusedSimpArgs false
set_option linter.unusedVariables false

set_option maxHeartbeats 2000000 in
set_option maxRecDepth 100000 in
theorem fewD16_any {w : World} {v : Value} {l : List El} (base : Int) (h : ElAt w v l) (hl : l.length ≤ maxLen) :
    Calls Tryd.prog 10 #[.agg #[.int .i64 base, v]] w fun e w' => e = .returned (.bool (fewD base l)) ∧ Below w.heap.size w w' := by
  obtain ⟨a, cap, rfl, _⟩ := id h
  have BB := Hid.mk7 (below_newE (Below.refl w.heap.size w) (.cells #[.int .i64 base, .slice a l.length cap] 25))
  have RD := Hid.mk7 (Rd.new w (.int .i64 base) (.slice a l.length cap))
  have HV := Hid.mk7 (h.alloc (.cells #[.int .i64 base, .slice a l.length cap] 25))
  clear h
  obtain ⟨_, _, hve, _, _, hcells⟩ := id HV.out
  cases hve
  have HC := Hid.mk7 hcells
  unfold maxLen at hl
  clear hcells HV
  have r0 := RD.out.c0
  have r1 := RD.out.c1
  go_enter Tryd.func10, Tryd.ntmps10
  go_wp2_with fail
  generalize w.alloc (.cells #[.int .i64 base, .slice a l.length cap] 25) = W0 at *
  go_wp2
  go_loopw [3] (fun iv wr => ∃ k : Nat, k ≤ l.length ∧ iv = .int .i64 (k : Nat) ∧ Hid ((l.take k).all (fun e => decide (e.2.2.length ≤ 200)) = true) ∧ Below W0.heap.size W0 wr) (fun iv _ => l.length - (intOf iv).toNat)
  case atStart => exact ⟨0, Nat.zero_le _, rfl, rfl, Below.refl _ _⟩
  case round =>
    obtain ⟨k, hk, rfl, HA, hb⟩ := hrel
    have s0 := (RD.out.later hb).c0
    have s1 := (RD.out.later hb).c1
    have hb2 := BB.out.trans (hb.mono BB.out.size)
    clear r0 r1
    by_cases hlt : k < l.length
    · obtain ⟨⟨f, t, T⟩, hr⟩ : ∃ r, l[k]? = some r := ⟨l[k], List.getElem?_eq_getElem hlt⟩
      obtain ⟨g, off, rfl, q0, q1, q2⟩ := HC.out k _ hr
      have c2 := cell_later7 hb (Nat.le_refl _) q2
      simp only at c2
      have HT2 := Hid.mk7 (all_take (p := fun e : El => decide (e.2.2.length ≤ 200)) hr)
      have HBAD := Hid.mk7 (all_bad (p := fun e : El => decide (e.2.2.length ≤ 200)) hr)
      have hs : (cacc T).size = T.length := cacc_size T
      clear q0 q1 q2 hr
      generalize cacc T = s at *
      by_cases h1 : 200 < s.size
      · have d1 : decide ((200 : Int) < (s.size : Int)) = true := decide_eq_true (by omega)
        have HF : Hid (fewD base l = false) := by show _ = _; unfold fewD; rw [HBAD.out (decide_eq_false (by simp only; omega)), Bool.false_and]
        go_wp2
        go_ret
        exact ⟨ret_boolE HF.out.symm, hb2⟩
      · have d1 : decide ((200 : Int) < (s.size : Int)) = false := decide_eq_false (by omega)
        have HA2 : Hid ((l.take (k + 1)).all (fun e => decide (e.2.2.length ≤ 200)) = true) := by show _ = _; rw [HT2.out, HA.out, Bool.true_and]; exact decide_eq_true (by simp only; omega)
        go_wp2
        go_roundw
        case rel => exact ⟨k + 1, by omega, by go_num, HA2, hb⟩
        case measure => simp [intOf]; omega
    · obtain rfl : k = l.length := by omega
      have HF : Hid (fewD base l = (decide (base ≤ 400) && decide ((l.length : Int) ≤ 70))) := by
        show _ = _
        have := HA.out
        rw [List.take_length] at this
        unfold fewD
        rw [this, Bool.true_and]
        congr 1
        exact decide_eq_decide.2 (by omega)
      by_cases hb4 : base ≤ 400
      · have e4 : decide (base ≤ 400) = true := decide_eq_true hb4
        rw [e4, Bool.true_and] at HF
        go_wp2
        go_ret
        exact ⟨ret_boolE HF.out.symm, hb2⟩
      · have e4 : decide (base ≤ 400) = false := decide_eq_false hb4
        rw [e4, Bool.false_and] at HF
        go_wp2
        go_ret
        exact ⟨ret_boolE HF.out.symm, hb2⟩
end Go.Proofs.YtafhogfbjklboaaDoor
