/- 'known' of layer 8. -/
import Derived.Test.YtkiiknaoljppdaaAlgHelp
namespace Go.Proofs.Ytkiiknaoljppdaa
open Go.RowKit Go.Sort
set_option linter.unusedSimpArgs false
set_option linter.unusedVariables false

theorem num_lit (w : World) (L : List Int) (cells : Array Value) (hc : cells.toList = L.map (Value.int .i64)) (n : Nat) (hn : n = L.length) :
    NumAt .i64 (w.alloc (.cells cells 3)) (.slice (some ⟨w.heap.size, 0, none⟩) n n) L := by
  subst hn
  refine ⟨_, _, rfl, Nat.le_refl _, fun i z hz => ⟨w.heap.size, 0, rfl, ?_⟩⟩
  rw [World.cell?_alloc_new, Nat.zero_add, ← Array.getElem?_toList, hc]
  simp [hz]
theorem kn_made (W : World) (L : List Int) (cells : Array Value) (hc : cells.toList = L.map (Value.int .i64)) (n : Nat) (hn : n = L.length) (hL : Ok8 L) (hr : (rle L).length ≤ 200) :
    Calls Try.prog 11 #[.slice (some ⟨W.heap.size, 0, none⟩) n n] (W.alloc (.cells cells 3)) fun e w' => ∃ p, e = .returned p ∧ Sub w' p L ∧ Below W.heap.size W w' := by
  refine (made_ok (num_lit W L cells hc n hn) hL hr).mono ?_
  rintro e w' ⟨p, rfl, hs, b⟩
  exact ⟨p, rfl, hs, ((Below.refl _ W).alloc (Nat.le_refl _) _).trans (b.mono (by simp))⟩
theorem kn_is (W : World) {p : Value} (h : Sub W p [1, 0, 1]) :
    Calls Try.prog 24 #[p, .slice (some ⟨W.heap.size, 0, none⟩) 3 3] (W.alloc (.cells #[.int .i64 1, .int .i64 0, .int .i64 1] 3)) fun e w' => e = .returned (.bool true) ∧ Below W.heap.size W w' := by
  have b0 : Below W.heap.size W (W.alloc (.cells #[.int .i64 1, .int .i64 0, .int .i64 1] 3)) := (Below.refl _ W).alloc (Nat.le_refl _) _
  refine (is_true (h.later b0) (num_lit W [1, 0, 1] _ rfl 3 rfl) (by decide)).mono ?_
  rintro e w' ⟨rfl, b⟩
  exact ⟨rfl, b0.trans (b.mono (by simp))⟩
theorem ok8_of {L : List Int} (h : decide (L.length ≤ 20000 ∧ ∀ c ∈ L, 0 ≤ c ∧ c ≤ 100) = true) : Ok8 L := by unfold Ok8; exact of_decide_eq_true h
theorem kn_expand {W : World} {p q : Value} (hp : Sub W p [1, 1]) (hq : Sub W q [0, 1, 0]) : Calls Try.prog 18 #[p, q] W fun e w' => ∃ r, e = .returned (.tuple #[r, .int .i64 0]) ∧ Sub w' r [1, 0, 1] ∧ Below W.heap.size W w' := by
  refine (expand_any hp hq (ok8_of (by decide)) (ok8_of (by decide)) rfl).mono ?_
  rintro e w' ⟨⟨hm, _⟩ | ⟨_, r, rfl, hs⟩, b⟩
  · exact absurd hm (by decide)
  · exact ⟨r, rfl, hs, b⟩
set_option maxHeartbeats 4000000 in
set_option maxRecDepth 100000 in
theorem known8_any (w : World) : Calls Try.prog 9 #[] w fun e w' => e = .returned (.bool true) ∧ Below w.heap.size w w' := by
  go_enter Try.func9, Try.ntmps9
  go_wp2_with fail
  refine (kn_made w [0, 1, 0] _ rfl 3 rfl (ok8_of (by decide)) (by decide)).mono ?_
  rintro e w1 ⟨a, rfl, ha, b1⟩
  have A1 := Hid.mk7 ha
  clear ha
  go_wp2_with fail
  refine (kn_made w1 [1, 1] _ rfl 2 rfl (ok8_of (by decide)) (by decide)).mono ?_
  rintro e w2 ⟨b, rfl, hb, b2⟩
  have A2 := Hid.mk7 (A1.out.later b2)
  have B2 := Hid.mk7 hb
  have g2 := b1.trans (b2.mono b1.size)
  clear A1 b1 b2 hb
  go_wp2_with fail
  refine (kn_expand B2.out A2.out).mono ?_
  rintro e w3 ⟨x, rfl, hx, b3⟩
  have A3 := Hid.mk7 (A2.out.later b3)
  have B3 := Hid.mk7 (B2.out.later b3)
  have X3 := Hid.mk7 hx
  have g3 := g2.trans (b3.mono g2.size)
  clear A2 B2 g2 b3 hx
  go_wp2_with fail
  refine (union_len A3.out B3.out (ok8_of (by decide)) (ok8_of (by decide)) (by decide)).mono ?_
  rintro e w4 ⟨rfl, b4⟩
  have A4 := Hid.mk7 (A3.out.later b4)
  have X4 := Hid.mk7 (X3.out.later b4)
  have g4 := g3.trans (b4.mono g3.size)
  clear A3 B3 X3 g3 b4
  go_wp2_with fail
  refine (delete_any ⟨#[120, 121, 122]⟩ A4.out (ok8_of (by decide)) rfl).mono ?_
  rintro e w5 ⟨he, b5⟩
  have he2 : e = .returned (.tuple #[.string ⟨#[120, 122]⟩, .int .i64 0]) := he
  subst he2
  clear he
  have A5 := Hid.mk7 (A4.out.later b5)
  have X5 := Hid.mk7 (X4.out.later b5)
  have g5 := g4.trans (b5.mono g4.size)
  clear A4 X4 g4 b5
  go_wp2_with fail
  refine (not_any A5.out (ok8_of (by decide)) (by decide)).mono ?_
  rintro e w6 ⟨n, rfl, hn, b6⟩
  have N6 : Hid (Sub w6 n [1, 0, 1]) := hn
  have X6 := Hid.mk7 (X5.out.later b6)
  have g6 := g5.trans (b6.mono g5.size)
  clear A5 X5 g5 b6 hn
  go_wp2_with fail
  refine (kn_is w6 X6.out).mono ?_
  rintro e w7 ⟨rfl, b7⟩
  have N7 := Hid.mk7 (N6.out.later b7)
  have g7 := g6.trans (b7.mono g6.size)
  clear N6 X6 g6 b7
  go_wp2_with fail
  refine (kn_is w7 N7.out).mono ?_
  rintro e w8 ⟨rfl, b8⟩
  have g8 := g7.trans (b8.mono g7.size)
  clear N7 g7 b8
  go_wp2
  go_ret
  exact ⟨rfl, g8⟩
end Go.Proofs.Ytkiiknaoljppdaa
