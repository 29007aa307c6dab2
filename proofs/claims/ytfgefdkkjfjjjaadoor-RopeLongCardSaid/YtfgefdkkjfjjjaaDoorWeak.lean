/- count.Of where nothing is known of the library's two tables: texts of ASCII, and one word. -/
import Derived.Test.YtfgefdkkjfjjjaaDoorRpD
import Derived.Laws.BitsLemmas
namespace Go.Proofs.YtfgefdkkjfjjjaaDoor
open Go.RowKit Go.Sort
set_option linter.unusedSimpArgs false
set_option linter.unusedVariables false

/-- Both tables of unicode/utf8 hold bytes, whichever. -/
structure Byt8 (w : World) : Prop where
  first : ∀ i, i < 256 → ∃ v : Nat, v < 256 ∧ w.cell? ⟨2, i, none⟩ = some (.int .u8 (v : Nat))
  acc : ∀ i, i < 32 → ∃ v : Nat, v < 256 ∧ w.cell? ⟨3, i, none⟩ = some (.int .u8 (v : Nat))
theorem Byt8.later {w w' : World} (h : Byt8 w) (hb : Below w.heap.size w w') : Byt8 w' where
  first := fun i hi => by obtain ⟨v, h1, h2⟩ := h.first i hi; exact ⟨v, h1, cell_after h2 hb⟩
  acc := fun i hi => by obtain ⟨v, h1, h2⟩ := h.acc i hi; exact ⟨v, h1, cell_after h2 hb⟩

set_option maxHeartbeats 2000000 in
set_option maxRecDepth 100000 in
theorem slow_weak (s : ByteArray) (n b0 b1 : Nat) (w : World) (h : Byt8 w) (hn : s.size = n) (hn4 : 4 ≤ n) (hn5 : n ≤ 5) (hb0 : ∀ q, (s[0]'q).toNat = b0) (hb1 : ∀ q, (s[1]'q).toNat = b1) (hb2 : ∀ q, (s[2]'q).toNat = 108) (h0 : b0 < 256) (h1 : b1 < 256) :
    Calls Tryd.prog 104 #[.string s] w fun e w' => ∃ (r : Int) (m : Nat), e = .returned (.tuple #[.int .i32 r, .int .i64 (m : Nat)]) ∧ (m = 1 ∨ m = 2) ∧ Below w.heap.size w w' := by
  obtain ⟨x, hx, cx⟩ := h.first b0 (by omega)
  by_cases h240 : 240 ≤ x
  · have h240' : (240 : Int) ≤ (x : Int) := by omega
    clear h
    go_enter Tryd.func104, Tryd.ntmps104
    go_wp2
    go_ret2
    exact ⟨_, 1, rfl, Or.inl rfl, Below.refl _ _⟩
  · have h240' : decide ((240 : Int) ≤ (x : Int)) = false := by simp; omega
    have h240'' : decide (240 ≤ x) = false := by simp; omega
    obtain ⟨lo, hlo, cl⟩ := h.acc (x / 16 * 2) (by omega)
    obtain ⟨hi, hhi, ch⟩ := h.acc (x / 16 * 2 + 1) (by omega)
    clear h h240
    go_enter Tryd.func104, Tryd.ntmps104
    go_wp2
    all_goals
      go_ret2
      first
        | exact ⟨_, 1, rfl, Or.inl rfl, (Below.refl _ _).alloc (Nat.le_refl _) _⟩
        | exact ⟨_, 2, rfl, Or.inr rfl, (Below.refl _ _).alloc (Nat.le_refl _) _⟩

/-- The first byte is ASCII, or the decoder's slow way finds nothing long. -/
def Weak1 (s : ByteArray) : Prop := (∃ b, b < 128 ∧ 0 < s.size ∧ ∀ q, (s[0]'q).toNat = b) ∨ ∃ b0 b1, 128 ≤ b0 ∧ b0 < 256 ∧ b1 < 256 ∧ 4 ≤ s.size ∧ s.size ≤ 5 ∧ (∀ q, (s[0]'q).toNat = b0) ∧ (∀ q, (s[1]'q).toNat = b1) ∧ (∀ q, (s[2]'q).toNat = 108)

set_option maxHeartbeats 2000000 in
set_option maxRecDepth 100000 in
theorem decode_weak (s : ByteArray) (w : World) (h : Byt8 w) (hs : Weak1 s) (hsz : s.size ≤ 1000000) :
    Calls Tryd.prog 103 #[.string s] w fun e w' => ∃ (r : Int) (m : Nat), e = .returned (.tuple #[.int .i32 r, .int .i64 (m : Nat)]) ∧ 1 ≤ m ∧ m ≤ s.size ∧ Below w.heap.size w w' := by
  have hpos : 0 < s.size := by
    rcases hs with ⟨b, _, h1, _⟩ | ⟨b0, b1, _, _, _, h1, _⟩ <;> omega
  have hne0 : s.toList ≠ [] := by
    intro e
    have := congrArg List.length e
    rw [ByteArray.toList_eq] at this
    change s.size = 0 at this
    omega
  have hem : (⟨#[]⟩ : ByteArray).toList = [] := by rw [ByteArray.toList_eq]
  have hne : (s.toList == (⟨#[]⟩ : ByteArray).toList) = false := by rw [hem]; simpa using hne0
  have hne1 : (s.toList == []) = false := by simpa using hne0
  rcases hs with ⟨b, hb, _, hb0⟩ | ⟨b0, b1, h1, h2, h3, h4, h5, hb0, hb1, hb2⟩
  · have hb' : (b : Int) < 128 := by omega
    clear h
    go_enter Tryd.func103, Tryd.ntmps103
    go_wp2
    go_ret2
    exact ⟨_, 1, rfl, Nat.le_refl _, hpos, Below.refl _ _⟩
  · have HS := Hid.mk4 (slow_weak s s.size b0 b1 w h rfl h4 h5 hb0 hb1 hb2 h2 h3)
    have hb' : decide ((b0 : Int) < 128) = false := by simp; omega
    have hb'' : decide (b0 < 128) = false := by simp; omega
    clear h hb1 hb2
    go_enter Tryd.func103, Tryd.ntmps103
    go_wp2_with fail
    refine HS.out.mono ?_
    rintro e w1 ⟨r, m, rfl, hm, b1'⟩
    clear HS
    go_wp2
    go_ret2
    exact ⟨r, m, rfl, by omega, by omega, b1'⟩

set_option maxHeartbeats 4000000 in
set_option maxRecDepth 100000 in
theorem first_weak (s : ByteArray) (w : World) (h : Byt8 w) (hs : Weak1 s) (hsz : s.size ≤ 1000000) :
    Calls Tryd.prog 102 #[.string s] w fun e w' => ∃ (m : Nat) (u l : Int), e = .returned (.agg #[.int .i64 (m : Nat), .int .i64 1, .int .i64 u, .int .i64 l]) ∧ 1 ≤ m ∧ m ≤ s.size ∧ Below w.heap.size w w' := by
  have b0 : Below w.heap.size w (w.alloc (Obj.cells #[.int .i64 0, .int .i64 0, .int .i64 0, .int .i64 0] 54)) := (Below.refl _ _).alloc (Nat.le_refl _) _
  have HD := Hid.mk4 (decode_weak s _ (h.later b0) hs hsz)
  clear h hs
  go_enter Tryd.func102, Tryd.ntmps102
  go_wp2_with fail
  refine HD.out.mono ?_
  rintro e w1 ⟨r, m, rfl, hm1, hm2, b1⟩
  have r1 : Row4 w1 w.heap.size (.int .i64 0) (.int .i64 0) (.int .i64 0) (.int .i64 0) := (Row4.new w _ _ _ _).later b1 (by simp)
  have c0 := r1.c0; have c1 := r1.c1; have c2 := r1.c2; have c3 := r1.c3; have fz := r1.fz
  have hlt := r1.lt
  have R1 := Hid.mk4 r1
  have g1 := b0.trans (b1.mono b0.size)
  clear r1 b0 b1 HD
  have hu : (65535 < r) ∨ (decide (65535 < r) = false) := by
    by_cases h : 65535 < r
    · exact Or.inl h
    · exact Or.inr (by simpa using h)
  have hl : ((r == 10) = true) ∨ ((r == 10) = false) := by
    by_cases h : r = 10
    · exact Or.inl (by simpa using h)
    · exact Or.inr (by simpa using h)
  rcases hu with hu | hu
  all_goals
    rcases hl with hl | hl
    all_goals
      go_wp2
      refine bodyPost_ret (results_row4 rfl _ _ w.heap.size _ _ _ _ rfl ((R1.out.set _ _ _ _).alloc _)) rfl ⟨m, _, _, rfl, hm1, hm2, ?_⟩
      exact Below.alloc (below_set4 g1 (Nat.le_refl _) _ _ _ _) (below_set4 g1 (Nat.le_refl _) _ _ _ _).size _
end Go.Proofs.YtfgefdkkjfjjjaaDoor
