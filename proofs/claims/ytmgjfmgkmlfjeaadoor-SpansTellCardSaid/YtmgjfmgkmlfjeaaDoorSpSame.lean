/- palinodelaw15's same. -/
import Derived.Test.YtmgjfmgkmlfjeaaDoorSpFn
import Derived.Test.YtmgjfmgkmlfjeaaDoorTurnsP
namespace Go.Proofs.YtmgjfmgkmlfjeaaDoor
open Go.RowKit Go.Sort
set_option linter.unusedSimpArgs false
set_option linter.unusedVariables false

theorem take_all15 {rs qs : List Sp} (hl : rs.length = qs.length) (h : rs.take rs.length = qs.take rs.length) : rs = qs := by
  rw [List.take_length] at h
  rw [h, hl, List.take_length]
set_option maxHeartbeats 2000000 in
set_option maxRecDepth 100000 in
theorem same15_any {w : World} {u v : Value} {rs qs : List Sp} (h1 : SpAt w u rs) (h2 : SpAt w v qs) (hl : rs.length ≤ 1000) (hl2 : qs.length ≤ 1000) :
    Calls Tryd.prog 13 #[u, v] w fun e w' => e = .returned (.bool (decide (rs = qs))) ∧ Below w.heap.size w w' := by
  obtain ⟨ua, ucap, rfl, _, _, hc1⟩ := id h1
  obtain ⟨va, vcap, rfl, _, _, hc2⟩ := id h2
  have HC1 := Hid.mk7 hc1
  have HC2 := Hid.mk7 hc2
  clear hc1 hc2 h1 h2
  by_cases hlen : rs.length = qs.length
  case neg =>
    have hne : ((rs.length : Int) != (qs.length : Int)) = true := by simp; omega
    have hne2 : (rs.length != qs.length) = true := by simpa using hlen
    rw [decide_eq_false (p := rs = qs) fun e => hlen (by rw [e])]
    go_enter Tryd.func13, Tryd.ntmps13
    go_wp2
    go_ret
    exact ⟨rfl, Below.refl _ _⟩
  have HLEN := Hid.mk7 hlen
  rw [← hlen]
  clear hlen
  generalize hres : decide (rs = qs) = res
  have HR := Hid.mk7 hres
  clear hres
  go_enter Tryd.func13, Tryd.ntmps13
  go_wp2
  go_loopw [5] (fun iv wr => ∃ k : Nat, k ≤ rs.length ∧ iv = .int .i64 (k : Nat) ∧ Hid (rs.take k = qs.take k) ∧ Below w.heap.size w wr) (fun iv _ => rs.length - (intOf iv).toNat)
  case atStart => exact ⟨0, Nat.zero_le _, rfl, by show _ = _; simp, Below.refl _ _⟩
  case round =>
    obtain ⟨k, hk, rfl, HT, hb⟩ := hrel
    by_cases hlt : k < rs.length
    · obtain ⟨⟨x, y, z⟩, hr⟩ : ∃ r, rs[k]? = some r := ⟨rs[k], List.getElem?_eq_getElem hlt⟩
      obtain ⟨⟨x', y', z'⟩, hq⟩ : ∃ r, qs[k]? = some r := ⟨qs[k]'(by have := HLEN.out; omega), List.getElem?_eq_getElem _⟩
      obtain ⟨g, off, rfl, q0, q1, q2⟩ := HC1.out k _ hr
      obtain ⟨g', off', rfl, q0', q1', q2'⟩ := HC2.out k _ hq
      have c0 := cell_later7 hb (Nat.le_refl _) q0
      have c1 := cell_later7 hb (Nat.le_refl _) q1
      have c2 := cell_later7 hb (Nat.le_refl _) q2
      have c0' := cell_later7 hb (Nat.le_refl _) q0'
      have c1' := cell_later7 hb (Nat.le_refl _) q1'
      have c2' := cell_later7 hb (Nat.le_refl _) q2'
      simp only at c0 c1 c2 c0' c1' c2'
      have HRr := Hid.mk7 hr
      have HQq := Hid.mk7 hq
      clear q0 q1 q2 q0' q1' q2' hr hq
      by_cases he : x = x' ∧ y = y' ∧ z = z'
      · obtain ⟨rfl, rfl, rfl⟩ := he
        have HT2 : Hid (rs.take (k + 1) = qs.take (k + 1)) := by show _ = _; rw [take15 HRr.out, take15 HQq.out, HT.out]
        clear HT HRr HQq
        go_wp2
        go_quiet (fail)
        go_wp2
        go_roundw
        case rel => exact ⟨k + 1, by omega, by go_num, HT2, below_drewN hb nq⟩
        case measure => simp [intOf]; omega
      · have HF : Hid (res = false) := by
          show _ = _
          rw [← HR.out]
          refine decide_eq_false fun e => ?_
          have h3 := HRr.out
          rw [e, HQq.out] at h3
          cases h3
          exact he ⟨rfl, rfl, rfl⟩
        clear HT HRr HQq
        by_cases h1 : x = x'
        · subst h1
          by_cases h2 : y = y'
          · subst h2
            have h3 : (z == z') = false := by simpa using fun e => he ⟨rfl, rfl, e⟩
            have h3' : decide (z = z') = false := by simpa using h3
            clear he
            go_wp2
            go_quiet (fail)
            go_wp2
            go_ret
            exact ⟨ret_bool15 HF.out.symm, below_drewN hb nq⟩
          · have h3 : (y == y') = false := by simpa using h2
            have h3' : decide (y = y') = false := by simpa using h3
            clear he
            go_wp2
            go_quiet (fail)
            go_wp2
            go_ret
            exact ⟨ret_bool15 HF.out.symm, below_drewN hb nq⟩
        · have h3 : (x == x') = false := by simpa using h1
          have h3' : decide (x = x') = false := by simpa using h3
          clear he
          go_wp2
          go_quiet (fail)
          go_wp2
          go_ret
          exact ⟨ret_bool15 HF.out.symm, below_drewN hb nq⟩
    · obtain rfl : k = rs.length := by omega
      have HF : Hid (res = true) := by show _ = _; rw [← HR.out]; exact decide_eq_true (take_all15 HLEN.out HT.out)
      go_wp2
      go_ret
      exact ⟨ret_bool15 HF.out.symm, hb⟩
end Go.Proofs.YtmgjfmgkmlfjeaaDoor
