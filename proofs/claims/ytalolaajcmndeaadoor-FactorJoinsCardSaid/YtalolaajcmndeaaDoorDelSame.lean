/- slices.Equal of elements; Same. -/
import Derived.Test.YtalolaajcmndeaaDoorDelIsC
namespace Go.Proofs.YtalolaajcmndeaaDoor
open Go.RowKit Go.Sort
set_option linter.unusedSimpArgs false
set_option linter.unusedVariables false

theorem cacc_inj {a b : List UInt8} (h : cacc a = cacc b) : a = b := by
  have := congrArg (fun s : ByteArray => s.data.toList) h
  exact this
set_option maxHeartbeats 4000000 in
set_option maxRecDepth 100000 in
theorem equalE_any {w : World} {u v : Value} {rs qs : List El} (h1 : ElAt w u rs) (h2 : ElAt w v qs) (hl : rs.length ≤ 281474976710656) :
    Calls Tryd.prog 58 #[u, v] w fun e w' => e = .returned (.bool (decide (rs = qs))) ∧ Below w.heap.size w w' := by
  obtain ⟨a, cap, rfl, hcap, _, hcells⟩ := h1
  obtain ⟨a2, cap2, rfl, hcap2, _, hcells2⟩ := h2
  by_cases hlen : rs.length = qs.length
  · have HC1 := Hid.mk7 hcells
    have HC2 := Hid.mk7 hcells2
    have HLEN := Hid.mk7 hlen
    rw [← hlen] at hcap2 ⊢
    clear hcells hcells2 hlen
    go_enter Tryd.func58, Tryd.ntmps58
    go_wp2
    go_loopw [13] (fun iv wr => ∃ k : Nat, k ≤ rs.length ∧ iv = .int .i64 (k : Nat) ∧ Hid (rs.take k = qs.take k) ∧ Below w.heap.size w wr) (fun iv _ => rs.length - (intOf iv).toNat)
    case atStart => exact ⟨0, Nat.zero_le _, rfl, by show _ = _; simp, Below.refl _ _⟩
    case round =>
      obtain ⟨k, hk, rfl, HT, hb⟩ := hrel
      by_cases hlt : k < rs.length
      · obtain ⟨⟨f, t, T⟩, hr⟩ : ∃ r, rs[k]? = some r := ⟨rs[k], List.getElem?_eq_getElem hlt⟩
        obtain ⟨⟨f', t', T'⟩, hq⟩ : ∃ r, qs[k]? = some r := ⟨qs[k]'(by rw [← HLEN.out]; exact hlt), List.getElem?_eq_getElem _⟩
        obtain ⟨g, off, rfl, q0, q1, q2⟩ := HC1.out k _ hr
        obtain ⟨g2, off2, rfl, q3, q4, q5⟩ := HC2.out k _ hq
        have c0 := cell_later7 hb (Nat.le_refl _) q0
        have c1 := cell_later7 hb (Nat.le_refl _) q1
        have c2 := cell_later7 hb (Nat.le_refl _) q2
        have c3 := cell_later7 hb (Nat.le_refl _) q3
        have c4 := cell_later7 hb (Nat.le_refl _) q4
        have c5 := cell_later7 hb (Nat.le_refl _) q5
        simp only at c0 c1 c2 c3 c4 c5
        by_cases he : ((f, t, T) : El) = (f', t', T')
        · cases he
          have HT2 : Hid (rs.take (k + 1) = qs.take (k + 1)) := by show _ = _; rw [take_snoc7 hr, take_snoc7 hq, HT.out]
          clear q0 q1 q2 q3 q4 q5 hr hq
          generalize cacc T = s at *
          go_wp2
          go_quiet (fail)
          go_wp2
          go_roundw
          case rel => exact ⟨k + 1, by omega, by go_num, HT2, below_drewN hb nq⟩
          case measure => simp [intOf]; omega
        · have HF : Hid (decide (rs = qs) = false) := by
            show _ = _
            rw [decide_eq_false_iff_not]
            intro e
            rw [e, hq] at hr
            exact he (Option.some.inj hr).symm
          clear q0 q1 q2 q3 q4 q5 hr hq
          by_cases hf : f = f'
          · subst hf
            by_cases ht : t = t'
            · subst ht
              have hs : cacc T ≠ cacc T' := fun e => he (by rw [cacc_inj e])
              have hs2 : ¬ (cacc T).toList = (cacc T').toList := fun e => hs (by rw [ByteArray.toList_eq, ByteArray.toList_eq] at e; exact ByteArray.ext (Array.toList_inj.1 e))
              have hs3 : decide ((cacc T).toList = (cacc T').toList) = false := decide_eq_false hs2
              have hs4 : ((cacc T).toList == (cacc T').toList) = false := by simpa using hs2
              generalize cacc T = s at *
              generalize cacc T' = s' at *
              clear he hs
              go_wp2
              go_quiet (fail)
              go_wp2
              go_ret
              exact ⟨ret_boolE HF.out.symm, below_drewN hb nq⟩
            · have hc : (t == t') = false := by simpa using ht
              have hc1 : decide (t = t') = false := by simpa using ht
              generalize cacc T = s at *
              generalize cacc T' = s' at *
              clear he
              go_wp2
              go_quiet (fail)
              go_wp2
              go_ret
              exact ⟨ret_boolE HF.out.symm, below_drewN hb nq⟩
          · have hc : (f == f') = false := by simpa using hf
            have hc1 : decide (f = f') = false := by simpa using hf
            generalize cacc T = s at *
            generalize cacc T' = s' at *
            clear he
            go_wp2
            go_quiet (fail)
            go_wp2
            go_ret
            exact ⟨ret_boolE HF.out.symm, below_drewN hb nq⟩
      · obtain rfl : k = rs.length := by omega
        have HF : Hid (decide (rs = qs) = true) := by
          have := HT.out
          rw [List.take_length, HLEN.out, List.take_length] at this
          exact decide_eq_true this
        go_wp2
        go_ret
        exact ⟨ret_boolE HF.out.symm, hb⟩
  · have hne : ((rs.length : Int) != (qs.length : Int)) = true := by simp; omega
    have hne2 : (rs.length != qs.length) = true := by simpa using hlen
    have HF : Hid (decide (rs = qs) = false) := by
      show _ = _
      rw [decide_eq_false_iff_not]
      intro e
      exact hlen (by rw [e])
    clear hcells hcells2 hlen
    go_enter Tryd.func58, Tryd.ntmps58
    go_wp2
    go_ret
    exact ⟨ret_boolE HF.out.symm, Below.refl _ _⟩
set_option maxHeartbeats 2000000 in
set_option maxRecDepth 100000 in
theorem same_anyE {w : World} {u v : Value} {rs qs : List El} (a b : Int) (h1 : ElAt w u rs) (h2 : ElAt w v qs) (hl : rs.length ≤ 281474976710656) :
    Calls Tryd.prog 30 #[.agg #[.int .i64 a, u], .agg #[.int .i64 b, v]] w fun e w' => e = .returned (.bool (decide (a = b ∧ rs = qs))) ∧ Below w.heap.size w w' := by
  have H1 := Hid.mk7 (h1.alloc (.cells #[.int .i64 a, u] 24))
  have H2 := Hid.mk7 (h2.alloc (.cells #[.int .i64 a, u] 24))
  have HU := Hid.mk7 (H1.out.alloc (.cells #[.int .i64 b, v] 24))
  have HV := Hid.mk7 (H2.out.alloc (.cells #[.int .i64 b, v] 24))
  obtain ⟨ua, ucap, rfl, _⟩ := id h1
  obtain ⟨va, vcap, rfl, _⟩ := id h2
  have BB := Hid.mk7 (below_newE (below_newE (Below.refl w.heap.size w) (.cells #[.int .i64 a, .slice ua rs.length ucap] 24)) (.cells #[.int .i64 b, .slice va qs.length vcap] 24))
  have HE := Hid.mk7 (equalE_any HU.out HV.out hl)
  clear H1 H2 h1 h2 HU HV
  by_cases hab : a = b
  · have HF : Hid (decide (a = b ∧ rs = qs) = decide (rs = qs)) := by
      show _ = _
      exact decide_eq_decide.2 ⟨fun h => h.2, fun h => ⟨hab, h⟩⟩
    subst hab
    go_enter Tryd.func30, Tryd.ntmps30
    go_wp2_with fail
    refine HE.out.mono ?_
    rintro e w1 ⟨rfl, b1⟩
    generalize decide (rs = qs) = bo at *
    go_wp2
    go_ret
    exact ⟨ret_boolE HF.out.symm, BB.out.trans (b1.mono BB.out.size)⟩
  · have hc : (a == b) = false := by simpa using hab
    have hc1 : decide (a = b) = false := by simpa using hab
    have HF : Hid (decide (a = b ∧ rs = qs) = false) := decide_eq_false fun h => hab h.1
    go_enter Tryd.func30, Tryd.ntmps30
    go_wp2
    go_ret
    exact ⟨ret_boolE HF.out.symm, BB.out⟩
end Go.Proofs.YtalolaajcmndeaaDoor
