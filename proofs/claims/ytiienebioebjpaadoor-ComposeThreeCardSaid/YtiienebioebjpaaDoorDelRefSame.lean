/- The reference's Same; few. -/
import Derived.Test.YtiienebioebjpaaDoorDelHelp
import Derived.Test.YtiienebioebjpaaDoorDelOrd
namespace Go.Proofs.YtiienebioebjpaaDoor
open Go.RowKit Go.Sort
set_option linter.unusedSimpArgs false
set_option linter.unusedVariables false

set_option maxHeartbeats 4000000 in
set_option maxRecDepth 100000 in
theorem rsame_any {w : World} {u v : Value} {rs qs : List El} (a b : Int) (h1 : ElAt w u rs) (h2 : ElAt w v qs) (hl : rs.length ≤ 281474976710656) :
    Calls Tryd.prog 16 #[.agg #[.int .i64 a, u], .agg #[.int .i64 b, v]] w fun e w' => e = .returned (.bool (decide (a = b ∧ rs = qs))) ∧ Below w.heap.size w w' := by
  obtain ⟨ua, ucap, rfl, _⟩ := id h1
  obtain ⟨va, vcap, rfl, _⟩ := id h2
  have B1 := Hid.mk7 (below_newE (below_newE (Below.refl w.heap.size w) (.cells #[.int .i64 a, .slice ua rs.length ucap] 24)) (.cells #[.int .i64 b, .slice va qs.length vcap] 24))
  have H1 := Hid.mk7 (h1.later B1.out)
  have H2 := Hid.mk7 (h2.later B1.out)
  have R1 := Hid.mk7 ((Rd.new w (.int .i64 a) (.slice ua rs.length ucap)).alloc (.cells #[.int .i64 b, .slice va qs.length vcap] 24))
  have R2 : Hid (Rd ((w.alloc (.cells #[.int .i64 a, .slice ua rs.length ucap] 24)).alloc (.cells #[.int .i64 b, .slice va qs.length vcap] 24)) (w.heap.size + 1) (.int .i64 b) (.slice va qs.length vcap)) := Rd.new' (by simp) _ _
  have r0 := R1.out.c0
  have r1 := R1.out.c1
  have r2 := R2.out.c0
  have r3 := R2.out.c1
  clear h1 h2
  by_cases hab : a = b
  case neg =>
    have hc : (a != b) = true := by simpa using hab
    have hc0 : (a == b) = false := by simpa using hab
    have hc1 : decide (a = b) = false := by simpa using hab
    have HF : Hid (decide (a = b ∧ rs = qs) = false) := decide_eq_false fun h => hab h.1
    go_enter Tryd.func16, Tryd.ntmps16
    go_wp2
    go_ret
    exact ⟨ret_boolE HF.out.symm, B1.out⟩
  have HD : Hid (decide (a = b ∧ rs = qs) = decide (rs = qs)) := decide_eq_decide.2 ⟨fun h => h.2, fun h => ⟨hab, h⟩⟩
  have HD2 : Hid (∀ P : Prop, (a = b ∧ P) = P) := fun P => propext ⟨fun h => h.2, fun h => ⟨hab, h⟩⟩
  have hc : (a != a) = false := by simp
  subst hab
  have HD : Hid (decide (True ∧ rs = qs) = decide (rs = qs)) := by show _ = _; simp
  by_cases hlen : rs.length = qs.length
  case neg =>
    have hne : ((rs.length : Int) != (qs.length : Int)) = true := by simp; omega
    have hne2 : (rs.length != qs.length) = true := by simpa using hlen
    have HF : Hid (decide (rs = qs) = false) := decide_eq_false fun e => hlen (by rw [e])
    go_enter Tryd.func16, Tryd.ntmps16
    go_wp2
    go_ret
    first | exact ⟨ret_boolE HF.out.symm, B1.out⟩ | exact ⟨ret_boolE (HD.out.trans HF.out).symm, B1.out⟩
  obtain ⟨_, _, e1, _, _, hcells1⟩ := H1.out
  cases e1
  obtain ⟨_, _, e2, _, _, hcells2⟩ := H2.out
  cases e2
  have HC1 := Hid.mk7 hcells1
  have HC2 := Hid.mk7 hcells2
  have HLEN := Hid.mk7 hlen
  have hl1 : rs.length ≤ qs.length := by omega
  have hl2 : qs.length ≤ rs.length := by omega
  rw [← hlen] at r3 R2 ⊢
  clear hcells1 hcells2
  have B1' : Hid (Below w.heap.size w ((w.alloc (.cells #[.int .i64 a, .slice ua rs.length ucap] 24)).alloc (.cells #[.int .i64 a, .slice va rs.length vcap] 24))) := below_newE (below_newE (Below.refl w.heap.size w) _) _
  rw [← hlen] at R1 r0 r1 r2 HC1 HC2
  clear hlen hl1 hl2 H1 H2 B1
  go_enter Tryd.func16, Tryd.ntmps16
  go_wp2_with fail
  generalize (w.alloc (.cells #[.int .i64 a, .slice ua rs.length ucap] 24)).alloc (.cells #[.int .i64 a, .slice va rs.length vcap] 24) = W0 at *
  go_wp2
  go_loopw [5] (fun iv wr => ∃ k : Nat, k ≤ rs.length ∧ iv = .int .i64 (k : Nat) ∧ Hid (rs.take k = qs.take k) ∧ Below W0.heap.size W0 wr) (fun iv _ => rs.length - (intOf iv).toNat)
  case atStart => exact ⟨0, Nat.zero_le _, rfl, by show _ = _; simp, Below.refl _ _⟩
  case round =>
    obtain ⟨k, hk, rfl, HT, hb⟩ := hrel
    have s1 := (R1.out.later hb).c1
    have s3 := (R2.out.later hb).c1
    clear r0 r1 r2 r3
    by_cases hlt : k < rs.length
    · obtain ⟨⟨f, t, T⟩, hr⟩ : ∃ r, rs[k]? = some r := ⟨rs[k], List.getElem?_eq_getElem hlt⟩
      obtain ⟨⟨f', t', T'⟩, hq⟩ : ∃ r, qs[k]? = some r := ⟨qs[k]'(by rw [← HLEN.out]; exact hlt), List.getElem?_eq_getElem _⟩
      obtain ⟨g, off, rfl, q0, q1, q2⟩ := HC1.out k _ hr
      obtain ⟨g2, off2, rfl, q3, q4, q5⟩ := HC2.out k _ hq
      have c0 := cell_later7 hb (Nat.le_refl _) q0
      have c1 := cell_later7 hb (Nat.le_refl _) q1
      have c2 := cell_later7 hb (Nat.le_refl _) q2
      have c3 := cell_later7 hb (Nat.le_refl _) q3
      have c4 := cell_later7 hb (Nat.le_refl _) q4
      have c5 := cell_later7 hb (Nat.le_refl _) q5
      simp only at c0 c1 c2 c3 c4 c5
      by_cases he : ((f, t, T) : El) = (f', t', T')
      · cases he
        have HT2 : Hid (rs.take (k + 1) = qs.take (k + 1)) := by show _ = _; rw [take_snoc7 hr, take_snoc7 hq, HT.out]
        clear q0 q1 q2 q3 q4 q5 hr hq
        generalize cacc T = s at *
        go_wp2
        go_quiet (fail)
        go_wp2
        go_roundw
        case rel => exact ⟨k + 1, by omega, by go_num, HT2, below_drewN hb nq⟩
        case measure => simp [intOf]; omega
      · have HF : Hid (decide (rs = qs) = false) := by
          show _ = _
          rw [decide_eq_false_iff_not]
          intro e
          rw [e, hq] at hr
          exact he (Option.some.inj hr).symm
        clear q0 q1 q2 q3 q4 q5 hr hq
        have hb2 := fun n => B1'.out.trans ((below_drewN hb n).mono B1'.out.size)
        by_cases hf : f = f'
        · subst hf
          by_cases ht : t = t'
          · subst ht
            have hs : cacc T ≠ cacc T' := fun e => he (by rw [cacc_inj e])
            have hs2 : ¬ (cacc T).toList = (cacc T').toList := fun e => hs (by rw [ByteArray.toList_eq, ByteArray.toList_eq] at e; exact ByteArray.ext (Array.toList_inj.1 e))
            have hs3 : decide ((cacc T).toList = (cacc T').toList) = false := decide_eq_false hs2
            have hs4 : ((cacc T).toList == (cacc T').toList) = false := by simpa using hs2
            generalize cacc T = s at *
            generalize cacc T' = s' at *
            clear he hs
            go_wp2
            go_quiet (fail)
            go_wp2
            go_ret
            first | exact ⟨ret_boolE HF.out.symm, hb2 nq⟩ | exact ⟨ret_boolE (HD.out.trans HF.out).symm, hb2 nq⟩
          · have hc : (t == t') = false := by simpa using ht
            have hc1 : decide (t = t') = false := by simpa using ht
            generalize cacc T = s at *
            generalize cacc T' = s' at *
            clear he
            go_wp2
            go_quiet (fail)
            go_wp2
            go_ret
            first | exact ⟨ret_boolE HF.out.symm, hb2 nq⟩ | exact ⟨ret_boolE (HD.out.trans HF.out).symm, hb2 nq⟩
        · have hc : (f == f') = false := by simpa using hf
          have hc1 : decide (f = f') = false := by simpa using hf
          generalize cacc T = s at *
          generalize cacc T' = s' at *
          clear he
          go_wp2
          go_quiet (fail)
          go_wp2
          go_ret
          first | exact ⟨ret_boolE HF.out.symm, hb2 nq⟩ | exact ⟨ret_boolE (HD.out.trans HF.out).symm, hb2 nq⟩
    · obtain rfl : k = rs.length := by omega
      have HF : Hid (decide (rs = qs) = true) := by
        have := HT.out
        rw [List.take_length, HLEN.out, List.take_length] at this
        exact decide_eq_true this
      go_wp2
      go_ret
      first | exact ⟨ret_boolE HF.out.symm, B1'.out.trans (hb.mono B1'.out.size)⟩ | exact ⟨ret_boolE (HD.out.trans HF.out).symm, B1'.out.trans (hb.mono B1'.out.size)⟩
def fewD (base : Int) (l : List El) : Bool := (l.all fun e => decide (e.2.2.length ≤ 200)) && (decide (base ≤ 400) && decide (l.length ≤ 70))
end Go.Proofs.YtiienebioebjpaaDoor
