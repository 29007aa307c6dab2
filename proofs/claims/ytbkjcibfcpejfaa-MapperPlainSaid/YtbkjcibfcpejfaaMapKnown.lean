/- 'known' of layer 9. -/
import Derived.Test.YtbkjcibfcpejfaaMapHelp
import Derived.Test.YtbkjcibfcpejfaaAlgKnown
namespace Go.Proofs.Ytbkjcibfcpejfaa
open Go.RowKit Go.Sort
set_option linter.unusedSimpArgs false
set_option linter.unusedVariables false

theorem kn_made9 (W : World) (L : List Int) (cells : Array Value) (hc : cells.toList = L.map (Value.int .i64)) (n : Nat) (hn : n = L.length) (hL : Ok8 L) (hr : L.length ≤ 200) :
    Calls Try.prog 9 #[.slice (some ⟨W.heap.size, 0, none⟩) n n] (W.alloc (.cells cells 3)) fun e w' => ∃ p, e = .returned p ∧ Sub w' p L ∧ Below W.heap.size W w' := by
  refine (made9_ok (num_lit W L cells hc n hn) hL hr).mono ?_
  rintro e w' ⟨p, rfl, hs, b⟩
  exact ⟨p, rfl, hs, ((Below.refl _ W).alloc (Nat.le_refl _) _).trans (b.mono (by simp))⟩
theorem Sub.n {w : World} {p : Value} {L : List Int} (h : Sub w p L) : SubN w p L := Or.inl h
theorem kdown {W : World} {p : Value} {L : List Int} (at0 : Int) (x : Nat) (h : SubN W p L) (hl : L.length ≤ 20000) (hx : dn L at0 = x) : Calls Try.prog 10 #[p, .int .i64 at0] W fun e w' => e = .returned (.int .i64 (x : Nat)) ∧ Below W.heap.size W w' := by
  subst hx; exact mdown_any at0 h hl
theorem kup {W : World} {p : Value} {L : List Int} (at0 : Int) (x : Nat) (h : SubN W p L) (hl : L.length ≤ 20000) (hhi : at0 ≤ 9223372036854775807) (hx : up L at0 = x) : Calls Try.prog 12 #[p, .int .i64 at0] W fun e w' => e = .returned (.int .i64 (x : Nat)) ∧ Below W.heap.size W w' := by
  subst hx; exact mup_any at0 h hl hhi
theorem knext {W : World} {p : Value} {L : List Int} (at0 : Int) (x : Nat) (h : SubN W p L) (hl : L.length ≤ 20000) (hx : nx L at0 = x) : Calls Try.prog 14 #[p, .int .i64 at0] W fun e w' => e = .returned (.int .i64 (x : Nat)) ∧ Below W.heap.size W w' := by
  subst hx; exact mnext_any at0 h hl
theorem kruns {W : World} {p : Value} {L : List Int} (b : Bool) (rs : List Sg) (h : SubN W p L) (hl : L.length ≤ 20000) (hx : rn b L = rs) : Calls Try.prog 17 #[p, .bool b] W fun e w' => ∃ v, e = .returned v ∧ SgAt w' v rs ∧ Below W.heap.size W w' := by
  subst hx; exact mruns_any b h hl
set_option maxHeartbeats 4000000 in
set_option maxRecDepth 100000 in
theorem known9_any (w : World) : Calls Try.prog 7 #[] w fun e w' => e = .returned (.bool true) ∧ Below w.heap.size w w' := by
  go_enter Try.func7, Try.ntmps7
  go_wp2_with fail
  refine (kn_made9 w [0, 1, 0, 2] _ rfl 4 rfl (ok8_of (by decide)) (by decide)).mono ?_
  rintro e w1 ⟨p, rfl, hs, b1⟩
  have S1 := Hid.mk7 hs
  have g1 := b1
  obtain ⟨b, v0, rfl, _⟩ := id hs
  clear b1 hs
  go_wp2_with fail
  refine (kruns true [(1, 2), (3, 4)] S1.out.n (by decide) (by decide)).mono ?_
  rintro e w2 ⟨rv, rfl, hr, b2⟩
  have S2 := Hid.mk7 (S1.out.later b2)
  have R2 := Hid.mk7 hr
  have g2 := g1.trans (b2.mono g1.size)
  obtain ⟨ra, rcap, rfl, hrcap, _, hrcells⟩ := id hr
  obtain ⟨g, off, rfl, _, _⟩ := hrcells 1 (3, 4) rfl
  simp only [List.length_cons, List.length_nil] at hrcap
  clear hrcells
  clear S1 g1 b2 hr
  go_wp2_with fail
  refine (kdown 2 1 S2.out.n (by decide) (by decide)).mono ?_
  rintro e w3 ⟨rfl, b3⟩
  have S3 := Hid.mk7 (S2.out.later b3)
  have R3 := Hid.mk7 (R2.out.later b3)
  have g3 := g2.trans (b3.mono g2.size)
  clear S2 R2 g2 b3
  go_wp2_with fail
  refine (kup 1 2 S3.out.n (by decide) (by decide) (by decide)).mono ?_
  rintro e w4 ⟨rfl, b4⟩
  have S4 := Hid.mk7 (S3.out.later b4)
  have R4 := Hid.mk7 (R3.out.later b4)
  have g4 := g3.trans (b4.mono g3.size)
  clear S3 R3 g3 b4
  go_wp2_with fail
  refine (kup 2 4 S4.out.n (by decide) (by decide) (by decide)).mono ?_
  rintro e w5 ⟨rfl, b5⟩
  have S5 := Hid.mk7 (S4.out.later b5)
  have R5 := Hid.mk7 (R4.out.later b5)
  have g5 := g4.trans (b5.mono g4.size)
  clear S4 R4 g4 b5
  go_wp2_with fail
  refine (knext 1 2 S5.out.n (by decide) (by decide)).mono ?_
  rintro e w6 ⟨rfl, b6⟩
  have S6 := Hid.mk7 (S5.out.later b6)
  have R6 := Hid.mk7 (R5.out.later b6)
  have g6 := g5.trans (b6.mono g5.size)
  clear S5 R5 g5 b6
  go_wp2_with fail
  refine (knext 3 4 S6.out.n (by decide) (by decide)).mono ?_
  rintro e w7 ⟨rfl, b7⟩
  have S7 := Hid.mk7 (S6.out.later b7)
  have R7 := Hid.mk7 (R6.out.later b7)
  have g7 := g6.trans (b7.mono g6.size)
  clear S6 R6 g6 b7
  have rc : w7.cell? ⟨g, off + 1 * 2, none⟩ = some (.int .i64 3) ∧ w7.cell? ⟨g, off + 1 * 2 + 1, none⟩ = some (.int .i64 4) := by
    obtain ⟨ra', rcap', e1, _, _, hrc⟩ := id R7.out
    obtain ⟨g', off', e2, r0, r1⟩ := hrc 1 (3, 4) rfl
    cases e1
    cases e2
    exact ⟨r0, r1⟩
  obtain ⟨rc0, rc1⟩ := rc
  simp only [Nat.one_mul, Nat.add_assoc, Nat.reduceAdd] at rc0 rc1
  go_wp2_with fail
  refine (kdown 5 0 (L := []) (Or.inr ⟨rfl, rfl⟩) (by decide) (by decide)).mono ?_
  rintro e w8 ⟨rfl, b8⟩
  have S8 := Hid.mk7 (S7.out.later b8)
  have R8 := Hid.mk7 (R7.out.later b8)
  have g8 := g7.trans (b8.mono g7.size)
  clear S7 R7 g7 b8
  clear rc0 rc1
  go_wp2
  go_ret
  exact ⟨rfl, g8⟩
end Go.Proofs.Ytbkjcibfcpejfaa
