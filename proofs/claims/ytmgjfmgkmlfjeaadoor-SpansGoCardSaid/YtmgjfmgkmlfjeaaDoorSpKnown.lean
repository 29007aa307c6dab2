/- At, In. palinodelaw15's same. palinodelaw15's known; calls whose answer is known. -/
import Derived.Test.YtmgjfmgkmlfjeaaDoorSpPutG
import Derived.Test.YtmgjfmgkmlfjeaaDoorSpLeast
import Derived.Test.YtmgjfmgkmlfjeaaDoorTurnsP
namespace Go.Proofs.YtmgjfmgkmlfjeaaDoor
open Go.RowKit Go.Sort
set_option linter.unusedSimpArgs false
set_option linter.unusedVariables false

set_option maxHeartbeats 4000000 in
set_option maxRecDepth 100000 in
theorem at_any15 {w : World} {v : Value} {L : List Sp} (p : Int) (h : SpAt w v L) (hl : L.length ≤ 1000) :
    Calls Tryd.prog 14 #[v, .int .i64 p] w fun e w' => e = .returned (.int .i64 (atS L p)) ∧ Below w.heap.size w w' := by
  have HR := Hid.mk7 (rowOf_any h hl)
  clear h
  go_enter Tryd.func14, Tryd.ntmps14
  go_wp2_with fail
  refine HR.out.mono ?_
  rintro e w1 ⟨rv, rfl, o1, b1⟩
  have HA := Hid.mk7 (rat_any p o1.row hl)
  clear o1 HR
  go_wp2_with fail
  refine HA.out.mono ?_
  rintro e w2 ⟨rfl, b2⟩
  have HB := Hid.mk7 (b1.trans (b2.mono b1.size))
  clear b1 b2 HA
  go_wp2
  go_ret
  exact ⟨rfl, HB.out⟩
set_option maxHeartbeats 4000000 in
set_option maxRecDepth 100000 in
theorem inS_any15 {w : World} {v : Value} {L : List Sp} (p q : Int) (h : SpAt w v L) (hl : L.length ≤ 400) :
    Calls Tryd.prog 16 #[v, .agg #[.int .i64 p, .int .i64 q]] w fun e w' => ∃ v', e = .returned v' ∧ SpAt w' v' (inS15 p q L) ∧ Below w.heap.size w w' := by
  have b0 := below15 (Below.refl w.heap.size w) (.cells #[.int .i64 p, .int .i64 q] 29)
  have HV0 := Hid.mk7 (h.later b0)
  have HB0 := Hid.mk7 b0
  have hnn := inS15_len p q L
  have p0 : (w.alloc (.cells #[.int .i64 p, .int .i64 q] 29)).cell? ⟨w.heap.size, 0, none⟩ = some (.int .i64 p) := by rw [World.cell?_alloc_new]; rfl
  have p1 : (w.alloc (.cells #[.int .i64 p, .int .i64 q] 29)).cell? ⟨w.heap.size, 1, none⟩ = some (.int .i64 q) := by rw [World.cell?_alloc_new]; rfl
  clear h b0
  go_enter Tryd.func16, Tryd.ntmps16
  go_wp2_with fail
  have z0 := cell_regrown p0
  have z1 := cell_regrown p1
  refine wp_region_mixP [([0, 2], [1]), ([], [3]), ([], [4]), ([5], [])] (by kernel_rfl) (by kernel_rfl) ?_
  rintro x0 ⟨d0, rfl⟩
  have m0 := redrawn15 (w.alloc (.cells #[.int .i64 p, .int .i64 q] 29)) d0
  have s0 := m0.size
  refine wpPlan_cons ?_
  simp only [pickAll, pickAt, List.nil_append, List.cons_append, List.append_nil]
  repeat (go_big_quiet_step (fail))
  refine wpQuiet_nil ?_
  go_wp2_with fail
  refine (rowOf_any (HV0.out.later m0) (by omega)).mono ?_
  rintro e x1 ⟨rv, rfl, o1, b1⟩
  have m1 := m0.trans (b1.mono m0.size)
  have s1 := b1.size
  go_wp2
  refine mixNext15 m1 ?_
  refine wpPlan_cons ?_
  simp only [pickAll, pickAt, List.nil_append, List.cons_append, List.append_nil]
  repeat (go_big_quiet_step (fail))
  refine wpQuiet_nil ?_
  go_wp2_with fail
  refine (within15_any p q o1.row (by omega)).mono ?_
  rintro e x2 ⟨wv, rfl, o2, b2⟩
  have m2 := m1.trans (b2.mono m1.size)
  have s2 := b2.size
  go_wp2
  refine mixNext15 m2 ?_
  refine wpPlan_cons ?_
  simp only [pickAll, pickAt, List.nil_append, List.cons_append, List.append_nil]
  repeat (go_big_quiet_step (fail))
  refine wpQuiet_nil ?_
  go_wp2_with fail
  refine (spansOf_any o2.row (by omega)).mono ?_
  rintro e x3 ⟨pv, rfl, o3, b3⟩
  have m3 := m2.trans (b3.mono m2.size)
  go_wp2
  refine mixNext15 m3 ?_
  refine wpPlan_cons ?_
  simp only [pickAll, pickAt, List.nil_append, List.cons_append, List.append_nil]
  repeat (go_big_quiet_step (fail))
  refine wpQuiet_nil ?_
  refine mixNext15 m3 (wpPlan_nil ?_)
  have HO3 := Hid.mk7 o3.row
  have HB3 := Hid.mk7 (HB0.out.trans (m3.mono HB0.out.size))
  clear p0 p1 z0 z1 m0 m1 m2 m3 b1 b2 b3 o1 o2 o3 s0 s1 s2
  go_wp2
  go_ret
  exact ⟨_, rfl, HO3.out, HB3.out⟩
end Go.Proofs.YtmgjfmgkmlfjeaaDoor
namespace Go.Proofs.YtmgjfmgkmlfjeaaDoor
open Go.RowKit Go.Sort
set_option linter.unusedSimpArgs false
set_option linter.unusedVariables false

theorem take_all15 {rs qs : List Sp} (hl : rs.length = qs.length) (h : rs.take rs.length = qs.take rs.length) : rs = qs := by
  rw [List.take_length] at h
  rw [h, hl, List.take_length]
set_option maxHeartbeats 2000000 in
set_option maxRecDepth 100000 in
theorem same15_any {w : World} {u v : Value} {rs qs : List Sp} (h1 : SpAt w u rs) (h2 : SpAt w v qs) (hl : rs.length ≤ 1000) (hl2 : qs.length ≤ 1000) :
    Calls Tryd.prog 13 #[u, v] w fun e w' => e = .returned (.bool (decide (rs = qs))) ∧ Below w.heap.size w w' := by
  obtain ⟨ua, ucap, rfl, _, _, hc1⟩ := id h1
  obtain ⟨va, vcap, rfl, _, _, hc2⟩ := id h2
  have HC1 := Hid.mk7 hc1
  have HC2 := Hid.mk7 hc2
  clear hc1 hc2 h1 h2
  by_cases hlen : rs.length = qs.length
  case neg =>
    have hne : ((rs.length : Int) != (qs.length : Int)) = true := by simp; omega
    have hne2 : (rs.length != qs.length) = true := by simpa using hlen
    rw [decide_eq_false (p := rs = qs) fun e => hlen (by rw [e])]
    go_enter Tryd.func13, Tryd.ntmps13
    go_wp2
    go_ret
    exact ⟨rfl, Below.refl _ _⟩
  have HLEN := Hid.mk7 hlen
  rw [← hlen]
  clear hlen
  generalize hres : decide (rs = qs) = res
  have HR := Hid.mk7 hres
  clear hres
  go_enter Tryd.func13, Tryd.ntmps13
  go_wp2
  go_loopw [5] (fun iv wr => ∃ k : Nat, k ≤ rs.length ∧ iv = .int .i64 (k : Nat) ∧ Hid (rs.take k = qs.take k) ∧ Below w.heap.size w wr) (fun iv _ => rs.length - (intOf iv).toNat)
  case atStart => exact ⟨0, Nat.zero_le _, rfl, by show _ = _; simp, Below.refl _ _⟩
  case round =>
    obtain ⟨k, hk, rfl, HT, hb⟩ := hrel
    by_cases hlt : k < rs.length
    · obtain ⟨⟨x, y, z⟩, hr⟩ : ∃ r, rs[k]? = some r := ⟨rs[k], List.getElem?_eq_getElem hlt⟩
      obtain ⟨⟨x', y', z'⟩, hq⟩ : ∃ r, qs[k]? = some r := ⟨qs[k]'(by have := HLEN.out; omega), List.getElem?_eq_getElem _⟩
      obtain ⟨g, off, rfl, q0, q1, q2⟩ := HC1.out k _ hr
      obtain ⟨g', off', rfl, q0', q1', q2'⟩ := HC2.out k _ hq
      have c0 := cell_later7 hb (Nat.le_refl _) q0
      have c1 := cell_later7 hb (Nat.le_refl _) q1
      have c2 := cell_later7 hb (Nat.le_refl _) q2
      have c0' := cell_later7 hb (Nat.le_refl _) q0'
      have c1' := cell_later7 hb (Nat.le_refl _) q1'
      have c2' := cell_later7 hb (Nat.le_refl _) q2'
      simp only at c0 c1 c2 c0' c1' c2'
      have HRr := Hid.mk7 hr
      have HQq := Hid.mk7 hq
      clear q0 q1 q2 q0' q1' q2' hr hq
      by_cases he : x = x' ∧ y = y' ∧ z = z'
      · obtain ⟨rfl, rfl, rfl⟩ := he
        have HT2 : Hid (rs.take (k + 1) = qs.take (k + 1)) := by show _ = _; rw [take15 HRr.out, take15 HQq.out, HT.out]
        clear HT HRr HQq
        go_wp2
        go_quiet (fail)
        go_wp2
        go_roundw
        case rel => exact ⟨k + 1, by omega, by go_num, HT2, below_drewN hb nq⟩
        case measure => simp [intOf]; omega
      · have HF : Hid (res = false) := by
          show _ = _
          rw [← HR.out]
          refine decide_eq_false fun e => ?_
          have h3 := HRr.out
          rw [e, HQq.out] at h3
          cases h3
          exact he ⟨rfl, rfl, rfl⟩
        clear HT HRr HQq
        by_cases h1 : x = x'
        · subst h1
          by_cases h2 : y = y'
          · subst h2
            have h3 : (z == z') = false := by simpa using fun e => he ⟨rfl, rfl, e⟩
            have h3' : decide (z = z') = false := by simpa using h3
            clear he
            go_wp2
            go_quiet (fail)
            go_wp2
            go_ret
            exact ⟨ret_bool15 HF.out.symm, below_drewN hb nq⟩
          · have h3 : (y == y') = false := by simpa using h2
            have h3' : decide (y = y') = false := by simpa using h3
            clear he
            go_wp2
            go_quiet (fail)
            go_wp2
            go_ret
            exact ⟨ret_bool15 HF.out.symm, below_drewN hb nq⟩
        · have h3 : (x == x') = false := by simpa using h1
          have h3' : decide (x = x') = false := by simpa using h3
          clear he
          go_wp2
          go_quiet (fail)
          go_wp2
          go_ret
          exact ⟨ret_bool15 HF.out.symm, below_drewN hb nq⟩
    · obtain rfl : k = rs.length := by omega
      have HF : Hid (res = true) := by show _ = _; rw [← HR.out]; exact decide_eq_true (take_all15 HLEN.out HT.out)
      go_wp2
      go_ret
      exact ⟨ret_bool15 HF.out.symm, hb⟩
end Go.Proofs.YtmgjfmgkmlfjeaaDoor
namespace Go.Proofs.YtmgjfmgkmlfjeaaDoor
open Go.RowKit Go.Sort
set_option linter.unusedSimpArgs false
set_option linter.unusedVariables false

theorem put_v {w : World} {v : Value} {L M : List Sp} {x y z r : Int} (h : SpAt w v L) (he : putE L (x, y, z) = r) (hl : putL L (x, y, z) = M) :
    Calls Tryd.prog 7 #[v, .agg #[.int .i64 x, .int .i64 y, .int .i64 z]] w fun e w' => ∃ v', e = .returned (.tuple #[v', .int .i64 r]) ∧ SpAt w' v' M ∧ HiB w.heap.size v' ∧ Below w.heap.size w w' := by
  subst he hl; exact put_any15 x y z h
theorem at_v {w : World} {v : Value} {L : List Sp} {p r : Int} (h : SpAt w v L) (hl : L.length ≤ 1000) (he : atS L p = r) :
    Calls Tryd.prog 14 #[v, .int .i64 p] w fun e w' => e = .returned (.int .i64 r) ∧ Below w.heap.size w w' := by
  subst he; exact at_any15 p h hl
theorem is15_v {w : World} {v : Value} {L : List Sp} {n : Int} {r : Bool} (h : SpAt w v L) (he : isS n L = r) :
    Calls Tryd.prog 11 #[v, .int .i64 n] w fun e w' => e = .returned (.bool r) ∧ Below w.heap.size w w' := by
  subst he; exact is_any15 n h
theorem inS_v {w : World} {v : Value} {L M : List Sp} {p q : Int} (h : SpAt w v L) (hl : L.length ≤ 400) (he : inS15 p q L = M) :
    Calls Tryd.prog 16 #[v, .agg #[.int .i64 p, .int .i64 q]] w fun e w' => ∃ v', e = .returned v' ∧ SpAt w' v' M ∧ Below w.heap.size w w' := by
  subst he; exact inS_any15 p q h hl
theorem k15_0 : putE [] (0, 9, 1) = 0 := by decide
theorem k15_0l : putL [] (0, 9, 1) = [(0, 9, 1)] := by decide
theorem k15_1 : putE [(0, 9, 1)] (3, 5, 2) = 0 := by decide
theorem k15_1l : putL [(0, 9, 1)] (3, 5, 2) = [(0, 3, 1), (3, 5, 2), (5, 9, 1)] := by decide
theorem k15_2 : putE [(0, 3, 1), (3, 5, 2), (5, 9, 1)] (3, 5, 101) = 12 := by decide
theorem k15_2l : putL [(0, 3, 1), (3, 5, 2), (5, 9, 1)] (3, 5, 101) = [] := by decide
theorem k15_3 : inS15 4 6 [(0, 3, 1), (3, 5, 2), (5, 9, 1)] = [(4, 5, 2), (5, 6, 1)] := by decide
theorem k15_4 : atS [(0, 3, 1), (3, 5, 2), (5, 9, 1)] 3 = 2 := by decide
theorem k15_5 : atS [(0, 3, 1), (3, 5, 2), (5, 9, 1)] 9 = 0 := by decide
theorem k15_6 : isS 9 [(0, 3, 1), (3, 5, 2), (5, 9, 1)] = true := by decide
theorem k15_7 : isS 8 [(0, 3, 1), (3, 5, 2), (5, 9, 1)] = false := by decide
set_option maxHeartbeats 4000000 in
set_option maxRecDepth 100000 in
theorem known15_any (w : World) : Calls Tryd.prog 5 #[] w fun e w' => e = .returned (.bool true) ∧ Below w.heap.size w w' := by
  go_enter Tryd.func5, Tryd.ntmps5
  go_wp2_with fail
  refine (put_v (SpAt.nil w) k15_0 k15_0l).mono ?_
  rintro e w1 ⟨v1, rfl, h1, _, b1⟩
  have H1 := Hid.mk7 h1
  have B1 := Hid.mk7 b1
  clear h1 b1
  go_wp2_with fail
  refine (put_v H1.out k15_1 k15_1l).mono ?_
  rintro e w2 ⟨v2, rfl, h2, _, b2⟩
  have H2 := Hid.mk7 h2
  have B2 := Hid.mk7 (B1.out.trans (b2.mono B1.out.size))
  clear h2 b2 H1 B1
  go_wp2_with fail
  refine (put_v H2.out k15_2 k15_2l).mono ?_
  rintro e w3 ⟨v3, rfl, h3, _, b3⟩
  have H3 := Hid.mk7 (H2.out.later b3)
  have B3 := Hid.mk7 (B2.out.trans (b3.mono B2.out.size))
  clear h3 b3 H2 B2
  go_wp2_with fail
  refine (inS_v H3.out (by decide) k15_3).mono ?_
  rintro e w4 ⟨v4, rfl, h4, b4⟩
  have HN4 := Hid.mk7 h4
  have H4 := Hid.mk7 (H3.out.later b4)
  have B4 := Hid.mk7 (B3.out.trans (b4.mono B3.out.size))
  clear h4 b4 H3 B3
  obtain ⟨a2, cap2, rfl, _, _, hm⟩ := id H4.out
  obtain ⟨a4, cap4, rfl, _, _, hn⟩ := id HN4.out
  obtain ⟨g2, off2, rfl, m0, m1, m2⟩ := hm 2 (5, 9, 1) rfl
  obtain ⟨g4, off4, rfl, n0, n1, n2⟩ := hn 0 (4, 5, 2) rfl
  simp only [List.length_cons, List.length_nil, Nat.zero_add, Nat.reduceAdd, Nat.reduceMul, Nat.add_zero, Nat.zero_mul, Nat.add_assoc] at *
  clear hm hn
  go_wp2_with fail
  refine (at_v H4.out (by decide) k15_4).mono ?_
  rintro e w5 ⟨rfl, b5⟩
  have H5 := Hid.mk7 (H4.out.later b5)
  have HN5 := Hid.mk7 (HN4.out.later b5)
  have B5 := Hid.mk7 (B4.out.trans (b5.mono B4.out.size))
  clear b5 H4 HN4 B4 m0 m1 m2 n0 n1 n2
  go_wp2_with fail
  refine (at_v H5.out (by decide) k15_5).mono ?_
  rintro e w6 ⟨rfl, b6⟩
  have H6 := Hid.mk7 (H5.out.later b6)
  have HN6 := Hid.mk7 (HN5.out.later b6)
  have B6 := Hid.mk7 (B5.out.trans (b6.mono B5.out.size))
  clear b6 H5 HN5 B5
  go_wp2_with fail
  refine (is15_v H6.out k15_6).mono ?_
  rintro e w7 ⟨rfl, b7⟩
  have H7 := Hid.mk7 (H6.out.later b7)
  have HN7 := Hid.mk7 (HN6.out.later b7)
  have B7 := Hid.mk7 (B6.out.trans (b7.mono B6.out.size))
  clear b7 H6 HN6 B6
  go_wp2_with fail
  refine (is15_v H7.out k15_7).mono ?_
  rintro e w8 ⟨rfl, b8⟩
  have HN8 := Hid.mk7 (HN7.out.later b8)
  have B8 := Hid.mk7 (B7.out.trans (b8.mono B7.out.size))
  clear b8 H7 HN7 B7
  obtain ⟨_, _, e8, _, _, hn⟩ := id HN8.out
  cases e8
  obtain ⟨g4', off4', e4, n0, n1, n2⟩ := hn 0 (4, 5, 2) rfl
  cases e4
  simp only [Nat.zero_mul, Nat.add_zero, Nat.add_assoc, Nat.zero_add, Nat.reduceAdd, Nat.reduceMul] at n0 n1 n2
  clear hn
  go_wp2
  go_ret
  exact ⟨rfl, B8.out⟩
end Go.Proofs.YtmgjfmgkmlfjeaaDoor
