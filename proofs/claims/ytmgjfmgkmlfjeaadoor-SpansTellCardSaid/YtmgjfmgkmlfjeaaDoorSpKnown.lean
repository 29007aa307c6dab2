/- palinodelaw15's known; calls whose answer is known. -/
import Derived.Test.YtmgjfmgkmlfjeaaDoorSpPutG
import Derived.Test.YtmgjfmgkmlfjeaaDoorSpAtIn
namespace Go.Proofs.YtmgjfmgkmlfjeaaDoor
open Go.RowKit Go.Sort
set_option linter.unusedSimpArgs false
set_option linter.unusedVariables false

theorem put_v {w : World} {v : Value} {L M : List Sp} {x y z r : Int} (h : SpAt w v L) (he : putE L (x, y, z) = r) (hl : putL L (x, y, z) = M) :
    Calls Tryd.prog 7 #[v, .agg #[.int .i64 x, .int .i64 y, .int .i64 z]] w fun e w' => ∃ v', e = .returned (.tuple #[v', .int .i64 r]) ∧ SpAt w' v' M ∧ HiB w.heap.size v' ∧ Below w.heap.size w w' := by
  subst he hl; exact put_any15 x y z h
theorem at_v {w : World} {v : Value} {L : List Sp} {p r : Int} (h : SpAt w v L) (hl : L.length ≤ 1000) (he : atS L p = r) :
    Calls Tryd.prog 14 #[v, .int .i64 p] w fun e w' => e = .returned (.int .i64 r) ∧ Below w.heap.size w w' := by
  subst he; exact at_any15 p h hl
theorem is15_v {w : World} {v : Value} {L : List Sp} {n : Int} {r : Bool} (h : SpAt w v L) (he : isS n L = r) :
    Calls Tryd.prog 11 #[v, .int .i64 n] w fun e w' => e = .returned (.bool r) ∧ Below w.heap.size w w' := by
  subst he; exact is_any15 n h
theorem inS_v {w : World} {v : Value} {L M : List Sp} {p q : Int} (h : SpAt w v L) (hl : L.length ≤ 400) (he : inS15 p q L = M) :
    Calls Tryd.prog 16 #[v, .agg #[.int .i64 p, .int .i64 q]] w fun e w' => ∃ v', e = .returned v' ∧ SpAt w' v' M ∧ Below w.heap.size w w' := by
  subst he; exact inS_any15 p q h hl
theorem k15_0 : putE [] (0, 9, 1) = 0 := by decide
theorem k15_0l : putL [] (0, 9, 1) = [(0, 9, 1)] := by decide
theorem k15_1 : putE [(0, 9, 1)] (3, 5, 2) = 0 := by decide
theorem k15_1l : putL [(0, 9, 1)] (3, 5, 2) = [(0, 3, 1), (3, 5, 2), (5, 9, 1)] := by decide
theorem k15_2 : putE [(0, 3, 1), (3, 5, 2), (5, 9, 1)] (3, 5, 101) = 12 := by decide
theorem k15_2l : putL [(0, 3, 1), (3, 5, 2), (5, 9, 1)] (3, 5, 101) = [] := by decide
theorem k15_3 : inS15 4 6 [(0, 3, 1), (3, 5, 2), (5, 9, 1)] = [(4, 5, 2), (5, 6, 1)] := by decide
theorem k15_4 : atS [(0, 3, 1), (3, 5, 2), (5, 9, 1)] 3 = 2 := by decide
theorem k15_5 : atS [(0, 3, 1), (3, 5, 2), (5, 9, 1)] 9 = 0 := by decide
theorem k15_6 : isS 9 [(0, 3, 1), (3, 5, 2), (5, 9, 1)] = true := by decide
theorem k15_7 : isS 8 [(0, 3, 1), (3, 5, 2), (5, 9, 1)] = false := by decide
set_option maxHeartbeats 4000000 in
set_option maxRecDepth 100000 in
theorem known15_any (w : World) : Calls Tryd.prog 5 #[] w fun e w' => e = .returned (.bool true) ∧ Below w.heap.size w w' := by
  go_enter Tryd.func5, Tryd.ntmps5
  go_wp2_with fail
  refine (put_v (SpAt.nil w) k15_0 k15_0l).mono ?_
  rintro e w1 ⟨v1, rfl, h1, _, b1⟩
  have H1 := Hid.mk7 h1
  have B1 := Hid.mk7 b1
  clear h1 b1
  go_wp2_with fail
  refine (put_v H1.out k15_1 k15_1l).mono ?_
  rintro e w2 ⟨v2, rfl, h2, _, b2⟩
  have H2 := Hid.mk7 h2
  have B2 := Hid.mk7 (B1.out.trans (b2.mono B1.out.size))
  clear h2 b2 H1 B1
  go_wp2_with fail
  refine (put_v H2.out k15_2 k15_2l).mono ?_
  rintro e w3 ⟨v3, rfl, h3, _, b3⟩
  have H3 := Hid.mk7 (H2.out.later b3)
  have B3 := Hid.mk7 (B2.out.trans (b3.mono B2.out.size))
  clear h3 b3 H2 B2
  go_wp2_with fail
  refine (inS_v H3.out (by decide) k15_3).mono ?_
  rintro e w4 ⟨v4, rfl, h4, b4⟩
  have HN4 := Hid.mk7 h4
  have H4 := Hid.mk7 (H3.out.later b4)
  have B4 := Hid.mk7 (B3.out.trans (b4.mono B3.out.size))
  clear h4 b4 H3 B3
  obtain ⟨a2, cap2, rfl, _, _, hm⟩ := id H4.out
  obtain ⟨a4, cap4, rfl, _, _, hn⟩ := id HN4.out
  obtain ⟨g2, off2, rfl, m0, m1, m2⟩ := hm 2 (5, 9, 1) rfl
  obtain ⟨g4, off4, rfl, n0, n1, n2⟩ := hn 0 (4, 5, 2) rfl
  simp only [List.length_cons, List.length_nil, Nat.zero_add, Nat.reduceAdd, Nat.reduceMul, Nat.add_zero, Nat.zero_mul, Nat.add_assoc] at *
  clear hm hn
  go_wp2_with fail
  refine (at_v H4.out (by decide) k15_4).mono ?_
  rintro e w5 ⟨rfl, b5⟩
  have H5 := Hid.mk7 (H4.out.later b5)
  have HN5 := Hid.mk7 (HN4.out.later b5)
  have B5 := Hid.mk7 (B4.out.trans (b5.mono B4.out.size))
  clear b5 H4 HN4 B4 m0 m1 m2 n0 n1 n2
  go_wp2_with fail
  refine (at_v H5.out (by decide) k15_5).mono ?_
  rintro e w6 ⟨rfl, b6⟩
  have H6 := Hid.mk7 (H5.out.later b6)
  have HN6 := Hid.mk7 (HN5.out.later b6)
  have B6 := Hid.mk7 (B5.out.trans (b6.mono B5.out.size))
  clear b6 H5 HN5 B5
  go_wp2_with fail
  refine (is15_v H6.out k15_6).mono ?_
  rintro e w7 ⟨rfl, b7⟩
  have H7 := Hid.mk7 (H6.out.later b7)
  have HN7 := Hid.mk7 (HN6.out.later b7)
  have B7 := Hid.mk7 (B6.out.trans (b7.mono B6.out.size))
  clear b7 H6 HN6 B6
  go_wp2_with fail
  refine (is15_v H7.out k15_7).mono ?_
  rintro e w8 ⟨rfl, b8⟩
  have HN8 := Hid.mk7 (HN7.out.later b8)
  have B8 := Hid.mk7 (B7.out.trans (b8.mono B7.out.size))
  clear b8 H7 HN7 B7
  obtain ⟨_, _, e8, _, _, hn⟩ := id HN8.out
  cases e8
  obtain ⟨g4', off4', e4, n0, n1, n2⟩ := hn 0 (4, 5, 2) rfl
  cases e4
  simp only [Nat.zero_mul, Nat.add_zero, Nat.add_assoc, Nat.zero_add, Nat.reduceAdd, Nat.reduceMul] at n0 n1 n2
  clear hn
  go_wp2
  go_ret
  exact ⟨rfl, B8.out⟩
end Go.Proofs.YtmgjfmgkmlfjeaaDoor
