/- 'known' of layer 7. -/
import Derived.Test.YtgdolopggocleaaSubWith
namespace Go.Proofs.Ytgdolopggocleaa
open Go.RowKit Go.Sort
set_option linter.unusedSimpArgs false
set_option linter.unusedVariables false

theorem row_lit (w : World) (rs : List Sg) (cells : Array Value) (hc : cells.toList = cs rs) (n : Nat) (hn : n = rs.length) :
    SgAt (w.alloc (.cells cells 43)) (.slice (some ⟨w.heap.size, 0, none⟩) n n) rs := by
  subst hn
  refine ⟨_, _, rfl, Nat.le_refl _, fun e => (by cases e), fun i r hr => ⟨w.heap.size, 0, rfl, ?_⟩⟩
  obtain ⟨h1, h2⟩ := cs_get hr
  rw [World.cell?_alloc_new, World.cell?_alloc_new, Nat.zero_add, ← Array.getElem?_toList, ← Array.getElem?_toList, hc]
  exact ⟨h1, h2⟩

/-- A call that tells of a subset. -/
theorem known_len {W : World} {p : Value} (h : Sub W p [0, 0, 3]) : Calls Try.prog 18 #[p] W fun e w' => e = .returned (.int .i64 3) ∧ Below W.heap.size W w' := len_any7 h (by decide)
theorem known_size {W : World} {p : Value} (h : Sub W p [0, 0, 3]) : Calls Try.prog 22 #[p] W fun e w' => e = .returned (.int .i64 1) ∧ Below W.heap.size W w' := size_any7 h (by decide)
theorem known_size2 {W : World} {p : Value} (h : Sub W p [3, 0, 3]) : Calls Try.prog 22 #[p] W fun e w' => e = .returned (.int .i64 2) ∧ Below W.heap.size W w' := size_any7 h (by decide)
theorem known_count2 {W : World} {p : Value} (h : Sub W p [0, 0, 3]) : Calls Try.prog 20 #[p, .int .i64 2] W fun e w' => e = .returned (.int .i64 3) ∧ Below W.heap.size W w' := count_any 2 h (by decide) (by decide)
theorem known_count9 {W : World} {p : Value} (h : Sub W p [0, 0, 3]) : Calls Try.prog 20 #[p, .int .i64 9] W fun e w' => e = .returned (.int .i64 0) ∧ Below W.heap.size W w' := count_any 9 h (by decide) (by decide)
theorem known_has2 {W : World} {p : Value} (h : Sub W p [0, 0, 3]) : Calls Try.prog 23 #[p, .int .i64 2] W fun e w' => e = .returned (.bool true) ∧ Below W.heap.size W w' := has_any 2 h (by decide) (by decide)
theorem known_has1 {W : World} {p : Value} (h : Sub W p [0, 0, 3]) : Calls Try.prog 23 #[p, .int .i64 1] W fun e w' => e = .returned (.bool false) ∧ Below W.heap.size W w' := has_any 1 h (by decide) (by decide)
theorem known_empty {W : World} {p : Value} (h : Sub W p [0, 0, 3]) : Calls Try.prog 21 #[p] W fun e w' => e = .returned (.bool false) ∧ Below W.heap.size W w' := empty_any7 h (by decide)
theorem known_empty4 {W : World} {p : Value} (h : Sub W p (List.replicate 4 0)) : Calls Try.prog 21 #[p] W fun e w' => e = .returned (.bool true) ∧ Below W.heap.size W w' := empty_any7 h (by decide)
theorem known_with {W : World} {p : Value} (h : Sub W p [0, 0, 3]) : Calls Try.prog 13 #[p, .int .i64 0, .int .i64 1, .int .i64 3] W fun e w' => ∃ p', e = .returned (.tuple #[p', .int .i64 0]) ∧ Sub w' p' [3, 0, 3] ∧ Below W.heap.size W w' :=
  with_ok 0 1 3 h (by decide) (by decide) (by decide) (by decide) (by decide) (by decide)
theorem known_with4 {W : World} {p : Value} (h : Sub W p [0, 0, 3]) : Calls Try.prog 13 #[p, .int .i64 2, .int .i64 4, .int .i64 1] W fun e w' => e = .returned (.tuple #[.pointer none, .int .i64 10]) ∧ Below W.heap.size W w' :=
  with_range 2 4 1 h (by decide) (by decide)
theorem known_of (W : World) : Calls Try.prog 10 #[.slice (some ⟨W.heap.size, 0, none⟩) 2 2] (W.alloc (.cells #[.int .i64 2, .int .i64 0, .int .i64 1, .int .i64 3] 43)) fun e w' => ∃ p, e = .returned (.tuple #[p, .int .i64 0]) ∧ Sub w' p [0, 0, 3] ∧ Below W.heap.size W w' := by
  refine (of_ok (row_lit W [(2, 0), (1, 3)] _ rfl 2 rfl) ⟨by simp [Cn], by simp⟩ (by decide) (by decide)).mono ?_
  rintro e w' ⟨p, rfl, hs, b⟩
  exact ⟨p, rfl, hs, ((Below.refl _ W).alloc (Nat.le_refl _) _).trans (b.mono (by simp))⟩
theorem known_of2 (W : World) : Calls Try.prog 10 #[.slice (some ⟨W.heap.size, 0, none⟩) 2 2] (W.alloc (.cells #[.int .i64 1, .int .i64 0, .int .i64 1, .int .i64 0] 43)) fun e w' => e = .returned (.tuple #[.pointer none, .int .i64 12]) ∧ Below W.heap.size W w' := by
  refine (of_form (row_lit W [(1, 0), (1, 0)] _ rfl 2 rfl) (by decide) (fun h => by have := h.1.2.1 (1, 0) rfl; simp at this)).mono ?_
  rintro e w' ⟨rfl, b⟩
  exact ⟨rfl, ((Below.refl _ W).alloc (Nat.le_refl _) _).trans (b.mono (by simp))⟩

set_option maxHeartbeats 4000000 in
set_option maxRecDepth 100000 in
theorem known7_any (w : World) : Calls Try.prog 8 #[] w fun e w' => e = .returned (.bool true) ∧ Below w.heap.size w w' := by
  go_enter Try.func8, Try.ntmps8
  go_wp2_with fail
  refine (known_of w).mono ?_
  rintro e w1 ⟨s, rfl, hs, b1⟩
  have S1 := Hid.mk7 hs
  clear hs
  go_wp2_with fail
  refine (known_with S1.out).mono ?_
  rintro e w2 ⟨t, rfl, ht, b2⟩
  have S2 := Hid.mk7 (S1.out.later b2)
  have T2 := Hid.mk7 ht
  have g2 := b1.trans (b2.mono b1.size)
  clear S1 b1 b2 ht
  go_wp2_with fail
  refine (known_with4 S2.out).mono ?_
  rintro e w3 ⟨rfl, b3⟩
  have S3 := Hid.mk7 (S2.out.later b3)
  have T3 := Hid.mk7 (T2.out.later b3)
  have g3 := g2.trans (b3.mono g2.size)
  clear S2 T2 g2 b3
  go_wp2_with fail
  refine (known_of2 w3).mono ?_
  rintro e w4 ⟨rfl, b4⟩
  have S4 := Hid.mk7 (S3.out.later b4)
  have T4 := Hid.mk7 (T3.out.later b4)
  have g4 := g3.trans (b4.mono g3.size)
  clear S3 T3 g3 b4
  go_wp2_with fail
  refine (known_len S4.out).mono ?_
  rintro e w5 ⟨rfl, b5⟩
  have S5 := Hid.mk7 (S4.out.later b5)
  have T5 := Hid.mk7 (T4.out.later b5)
  have g5 := g4.trans (b5.mono g4.size)
  clear S4 T4 g4 b5
  go_wp2_with fail
  refine (known_count2 S5.out).mono ?_
  rintro e w6 ⟨rfl, b6⟩
  have S6 := Hid.mk7 (S5.out.later b6)
  have T6 := Hid.mk7 (T5.out.later b6)
  have g6 := g5.trans (b6.mono g5.size)
  clear S5 T5 g5 b6
  go_wp2_with fail
  refine (known_count9 S6.out).mono ?_
  rintro e w7 ⟨rfl, b7⟩
  have S7 := Hid.mk7 (S6.out.later b7)
  have T7 := Hid.mk7 (T6.out.later b7)
  have g7 := g6.trans (b7.mono g6.size)
  clear S6 T6 g6 b7
  go_wp2_with fail
  refine (known_size S7.out).mono ?_
  rintro e w8 ⟨rfl, b8⟩
  have S8 := Hid.mk7 (S7.out.later b8)
  have T8 := Hid.mk7 (T7.out.later b8)
  have g8 := g7.trans (b8.mono g7.size)
  clear S7 T7 g7 b8
  go_wp2_with fail
  refine (known_has2 S8.out).mono ?_
  rintro e w9 ⟨rfl, b9⟩
  have S9 := Hid.mk7 (S8.out.later b9)
  have T9 := Hid.mk7 (T8.out.later b9)
  have g9 := g8.trans (b9.mono g8.size)
  clear S8 T8 g8 b9
  go_wp2_with fail
  refine (known_has1 S9.out).mono ?_
  rintro e w10 ⟨rfl, b10⟩
  have S10 := Hid.mk7 (S9.out.later b10)
  have T10 := Hid.mk7 (T9.out.later b10)
  have g10 := g9.trans (b10.mono g9.size)
  clear S9 T9 g9 b10
  go_wp2_with fail
  refine (known_size2 T10.out).mono ?_
  rintro e w11 ⟨rfl, b11⟩
  have S11 := Hid.mk7 (S10.out.later b11)
  have g11 := g10.trans (b11.mono g10.size)
  clear S10 T10 g10 b11
  go_wp2_with fail
  refine (known_size S11.out).mono ?_
  rintro e w12 ⟨rfl, b12⟩
  have S12 := Hid.mk7 (S11.out.later b12)
  have g12 := g11.trans (b12.mono g11.size)
  clear S11 g11 b12
  go_wp2_with fail
  refine (new_any 4 w12 4 rfl (by decide)).mono ?_
  rintro e w13 ⟨q, rfl, hq, b13⟩
  have S13 := Hid.mk7 (S12.out.later b13)
  have Q13 := Hid.mk7 hq
  have g13 := g12.trans (b13.mono g12.size)
  clear S12 g12 b13 hq
  go_wp2_with fail
  refine (known_empty4 Q13.out).mono ?_
  rintro e w14 ⟨rfl, b14⟩
  have S14 := Hid.mk7 (S13.out.later b14)
  have g14 := g13.trans (b14.mono g13.size)
  clear S13 Q13 g13 b14
  go_wp2_with fail
  refine (known_empty S14.out).mono ?_
  rintro e w15 ⟨rfl, b15⟩
  have g15 := g14.trans (b15.mono g14.size)
  clear S14 g14 b15
  go_wp2
  go_ret
  exact ⟨rfl, g15⟩
end Go.Proofs.Ytgdolopggocleaa
