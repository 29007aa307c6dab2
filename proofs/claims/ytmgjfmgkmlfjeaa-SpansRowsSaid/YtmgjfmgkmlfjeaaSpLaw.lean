/- What the laws on styles ask: plain mathematics (layer 15; written ahead of its code). -/
import Derived.Test.YtmgjfmgkmlfjeaaSpPut
namespace Go.Proofs.Ytmgjfmgkmlfjeaa
set_option linter.unusedSimpArgs false
set_option linter.unusedVariables false

theorem OkS.take {m : Int} : ∀ {l : List Sp} {a st : Int} (n : Nat), OkS m a st l → OkS m a st (l.take n)
  | [], _, _, n, _ => by simp [OkS]
  | (f, t, s) :: l, a, st, 0, _ => trivial
  | (f, t, s) :: l, a, st, n + 1, h => ⟨h.1, OkS.take n h.2⟩
/-- Put upon nothing, one after the other: the spans themselves. -/
theorem putS_take {m : Int} {l : List Sp} (h : OkS m 0 0 l) {n : Nat} {x : Sp} (hr : l[n]? = some x) : putS (l.take n) x = l.take (n + 1) := by
  have hn := (List.getElem?_eq_some_iff.1 hr).1
  have e : l.take (n + 1) = l.take n ++ [x] := by rw [List.take_add_one, hr]; rfl
  have h2 := h.take (n + 1)
  rw [e] at h2 ⊢
  obtain ⟨f, t, s⟩ := x
  obtain ⟨o1, ⟨o2, o3, o4, o5, o6, o7⟩, _⟩ := (okS_append _ _ _ _).1 h2
  exact putS_end o1 o4 o7 o5 o6 o2 o3
/-- A span of spans put upon them changes nothing. -/
theorem putS_self {m : Int} {l : List Sp} (h : OkS m 0 0 l) (h0 : 0 ≤ m) {x : Sp} (hx : x ∈ l) : putS l x = l := by
  have key : ∀ (l : List Sp) (a st : Int), OkS m a st l → x ∈ l → a ≤ x.1 ∧ x.1 < x.2.1 ∧ x.2.1 ≤ m ∧ 1 ≤ x.2.2 ∧ x.2.2 ≤ 100 ∧ ∀ k, x.1 ≤ k → k < x.2.1 → atS l k = x.2.2 := by
    intro l
    induction l with
    | nil => intro a st _ hx; cases hx
    | cons y l ih =>
      obtain ⟨f, t, s⟩ := y
      intro a st hh hx
      obtain ⟨⟨h1, h2, h3, h4, h5, h6⟩, h7⟩ := hh
      rcases List.mem_cons.1 hx with rfl | hx
      · exact ⟨h3, h4, h5, h1, h2, fun k k1 k2 => by simp only [atS]; rw [if_pos ⟨k1, k2⟩]⟩
      · obtain ⟨i1, i2, i3, i4, i5, i6⟩ := ih t s h7 hx
        exact ⟨by omega, i2, i3, i4, i5, fun k k1 k2 => by rw [atS_skip (by omega)]; exact i6 k k1 k2⟩
  obtain ⟨i1, i2, i3, i4, i5, i6⟩ := key l 0 0 h hx
  obtain ⟨f, t, s⟩ := x
  simp only at i1 i2 i3 i4 i5 i6
  obtain ⟨p1, p2⟩ := putS_ok (F := f) (T := t) (S := s) h i1 (by omega) i3 (by omega) i5
  refine sp_same p1 h fun k hk => ?_
  rw [p2]
  split
  · rename_i hc; exact (i6 k hc.1 hc.2).symm
  · rfl
/-- Put twice, put over, taken off. -/
theorem again15 {a b c st : Int} (ha : 0 ≤ a) (hab : a ≤ b) (hb : b ≤ 300) (hc : 1 ≤ c ∧ c ≤ 100) (hs : 1 ≤ st ∧ st ≤ 100) :
    OkS 300 0 0 [(0, 300, c)] ∧ putS [] (0, 300, c) = [(0, 300, c)] ∧ OkS 300 0 0 (putS [(0, 300, c)] (a, b, st)) ∧ putS (putS [(0, 300, c)] (a, b, st)) (a, b, st) = putS [(0, 300, c)] (a, b, st) ∧
    putS (putS [(0, 300, c)] (a, b, st)) (a, b, c) = [(0, 300, c)] ∧ putS [] (a, b, 0) = [] ∧ OkS 300 0 0 (putS [(0, 300, c)] (a, b, 0)) ∧ (a < b → atS (putS [(0, 300, c)] (a, b, 0)) a = 0) ∧
    (putS [(0, 300, c)] (a, b, st)).length ≤ 3 ∧ (putS [(0, 300, c)] (a, b, 0)).length ≤ 3 := by
  have o0 : OkS 300 0 0 [(0, 300, c)] := ⟨⟨hc.1, hc.2, by omega, by omega, by omega, by omega⟩, trivial⟩
  have oe : OkS 300 0 0 ([] : List Sp) := trivial
  obtain ⟨p1, p2⟩ := putS_ok (F := a) (T := b) (S := st) o0 ha hab hb (by omega) hs.2
  obtain ⟨q1, q2⟩ := putS_ok (F := a) (T := b) (S := st) p1 ha hab hb (by omega) hs.2
  obtain ⟨r1, r2⟩ := putS_ok (F := a) (T := b) (S := c) p1 ha hab hb (by omega) hc.2
  obtain ⟨s1, s2⟩ := putS_ok (F := a) (T := b) (S := 0) oe ha hab hb (by omega) (by omega)
  obtain ⟨t1, t2⟩ := putS_ok (F := a) (T := b) (S := 0) o0 ha hab hb (by omega) (by omega)
  refine ⟨o0, putS_end (l := []) oe (by simp [endS]) (by simp [endS]; omega) (by omega) (by omega) hc.1 hc.2, p1, ?_, ?_, ?_, t1, ?_, putS_len o0 hab, putS_len o0 hab⟩
  · refine sp_same q1 p1 fun k hk => ?_
    rw [q2, p2]; split <;> rfl
  · refine sp_same r1 o0 fun k hk => ?_
    rw [r2, p2]
    simp only [atS]
    by_cases h : a ≤ k ∧ k < b
    · rw [if_pos h, if_pos (by omega)]
    · rw [if_neg h, if_neg h]
  · refine sp_same s1 oe fun k hk => ?_
    rw [s2]; simp [atS]
  · intro h
    rw [t2, if_pos (by omega)]
/-- Spans with room between them. -/
def manyS (g : Nat → Int) (n : Nat) : List Sp := (List.range n).map fun (j : Nat) => (3 * (j : Int), 3 * (j : Int) + 2, g j)
theorem manyS_succ (g : Nat → Int) (n : Nat) : manyS g (n + 1) = manyS g n ++ [(3 * (n : Int), 3 * (n : Int) + 2, g n)] := by simp [manyS, List.range_succ]
theorem manyS_len (g : Nat → Int) (n : Nat) : (manyS g n).length = n := by simp [manyS]
theorem manyS_ok {g : Nat → Int} (hg : ∀ j, 1 ≤ g j ∧ g j ≤ 100) : ∀ n : Nat, OkS (3 * (n : Int)) 0 0 (manyS g n) ∧ (n = 0 ∧ endS 0 0 (manyS g n) = (0, 0) ∨ (endS 0 0 (manyS g n)).1 = 3 * (n : Int) - 1)
  | 0 => ⟨trivial, Or.inl ⟨rfl, rfl⟩⟩
  | n + 1 => by
    obtain ⟨h1, h2⟩ := manyS_ok hg n
    have h3 := hg n
    rw [manyS_succ]
    refine ⟨(okS_append _ _ _ _).2 ⟨h1.mono (by omega), ⟨h3.1, h3.2, ?_, by omega, by omega, ?_⟩, trivial⟩, Or.inr ?_⟩
    · rcases h2 with ⟨rfl, h2⟩ | h2
      · rw [h2]; simp
      · omega
    · rcases h2 with ⟨rfl, h2⟩ | h2
      · rw [h2]; simp only; omega
      · omega
    · rw [endS_snoc]; simp only; omega
theorem manyS_at {g : Nat → Int} (hg : ∀ j, 1 ≤ g j ∧ g j ≤ 100) : ∀ (n : Nat) (k : Int), atS (manyS g n) k = if 0 ≤ k ∧ k < 3 * (n : Int) ∧ k % 3 ≠ 2 then g (k / 3).toNat else 0
  | 0, k => by rw [if_neg (by omega)]; rfl
  | n + 1, k => by
    have ih := manyS_at hg n k
    obtain ⟨h1, h2⟩ := manyS_ok hg n
    rw [manyS_succ, atS_append _ _ 0 0 k h1]
    have h3 := hg (k / 3).toNat
    have he : (endS 0 0 (manyS g n)).1 ≤ 3 * (n : Int) := by
      rcases h2 with ⟨rfl, h2⟩ | h2
      · rw [h2]; simp
      · omega
    by_cases hc : 0 ≤ k ∧ k < 3 * (n : Int) ∧ k % 3 ≠ 2
    · rw [if_pos hc] at ih
      have hlt : k < (endS 0 0 (manyS g n)).1 := by
        rcases h2 with ⟨rfl, _⟩ | h2
        · omega
        · omega
      rw [if_pos ⟨hlt, by rw [ih]; omega⟩, ih, if_pos (by omega)]
    · rw [if_neg hc] at ih
      rw [if_neg (by simp [ih])]
      simp only [atS]
      by_cases hd : 3 * (n : Int) ≤ k ∧ k < 3 * (n : Int) + 2
      · rw [if_pos hd, if_pos (by omega)]
        congr 1
        omega
      · rw [if_neg hd, if_neg (by omega)]
/-- One more; one with another style; one over all; one too many. -/
theorem many_more {g : Nat → Int} (hg : ∀ j, 1 ≤ g j ∧ g j ≤ 100) (n : Nat) : putS (manyS g n) (3 * (n : Int), 3 * (n : Int) + 2, g n) = manyS g (n + 1) := by
  obtain ⟨h1, h2⟩ := manyS_ok hg n
  have h3 := hg n
  rw [manyS_succ]
  refine putS_end (m := 3 * (n : Int) + 3) (h1.mono (by omega)) ?_ ?_ (by omega) (by omega) h3.1 h3.2
  · rcases h2 with ⟨rfl, h2⟩ | h2
    · rw [h2]; simp
    · omega
  · rcases h2 with ⟨rfl, h2⟩ | h2
    · rw [h2]; simp only; omega
    · omega
theorem many_other {g : Nat → Int} (hg : ∀ j, 1 ≤ g j ∧ g j ≤ 100) {n k : Nat} (hk : k < n) {s : Int} (hs : 1 ≤ s ∧ s ≤ 100) : putS (manyS g n) (3 * (k : Int), 3 * (k : Int) + 2, s) = manyS (fun j => if j = k then s else g j) n := by
  have hg2 : ∀ j, 1 ≤ (fun j => if j = k then s else g j) j ∧ (fun j => if j = k then s else g j) j ≤ 100 := fun j => by
    simp only
    split
    · exact hs
    · exact hg j
  obtain ⟨p1, p2⟩ := putS_ok (F := 3 * (k : Int)) (T := 3 * (k : Int) + 2) (S := s) (manyS_ok hg n).1 (by omega) (by omega) (by omega) (by omega) hs.2
  refine sp_same p1 (manyS_ok hg2 n).1 fun i hi => ?_
  rw [p2, manyS_at hg, manyS_at hg2]
  by_cases hc : 3 * (k : Int) ≤ i ∧ i < 3 * (k : Int) + 2
  · rw [if_pos hc, if_pos (by omega), if_pos (by omega)]
  · rw [if_neg hc]
    by_cases hd : 0 ≤ i ∧ i < 3 * (n : Int) ∧ i % 3 ≠ 2
    · rw [if_pos hd, if_pos hd, if_neg (by omega)]
    · rw [if_neg hd, if_neg hd]
theorem many_all {g : Nat → Int} (hg : ∀ j, 1 ≤ g j ∧ g j ≤ 100) {n : Nat} {T s : Int} (hn : 3 * (n : Int) ≤ T) (hT : 0 < T) (hs : 1 ≤ s ∧ s ≤ 100) : putS (manyS g n) (0, T, s) = [(0, T, s)] := by
  obtain ⟨p1, p2⟩ := putS_ok (m := T) (F := 0) (T := T) (S := s) ((manyS_ok hg n).1.mono hn) (by omega) (by omega) (by omega) (by omega) hs.2
  refine sp_same p1 (show OkS T 0 0 [(0, T, s)] from ⟨⟨hs.1, hs.2, by omega, hT, by omega, by omega⟩, trivial⟩) fun i hi => ?_
  rw [p2, manyS_at hg]
  simp only [atS]
  split
  · rfl
  · rename_i hc; rw [if_neg (by omega)]
theorem many_beyond {g : Nat → Int} (hg : ∀ j, 1 ≤ g j ∧ g j ≤ 100) {n : Nat} {F T s : Int} (hn : 3 * (n : Int) ≤ F) (h0 : 0 < F) (hT : F < T) (hs : 1 ≤ s ∧ s ≤ 100) : putS (manyS g n) (F, T, s) = manyS g n ++ [(F, T, s)] := by
  obtain ⟨h1, h2⟩ := manyS_ok hg n
  refine putS_end (m := T) (h1.mono (by omega)) ?_ ?_ hT (by omega) hs.1 hs.2
  · rcases h2 with ⟨rfl, h2⟩ | h2
    · rw [h2]; simp only; omega
    · omega
  · rcases h2 with ⟨rfl, h2⟩ | h2
    · rw [h2]; simp only; omega
    · omega
end Go.Proofs.Ytmgjfmgkmlfjeaa
