/- A style put upon bytes: plain mathematics (layer 15; written ahead of its code). -/
import Derived.Test.YtmgjfmgkmlfjeaaDoorSpMath
namespace Go.Proofs.YtmgjfmgkmlfjeaaDoor
set_option linter.unusedSimpArgs false
set_option linter.unusedVariables false

theorem pdS_mono {m : Int} : ∀ {l : List Sp} {a b : Int}, a ≤ b → PdS m b l → PdS m a l
  | [], _, _, _, _ => trivial
  | (f, t, s) :: l, a, b, h, hp => by
    obtain ⟨h1, h2⟩ := hp
    refine ⟨h1, ?_⟩
    split
    · rename_i hc; rw [if_pos hc] at h2; exact ⟨by omega, h2.2.1, h2.2.2⟩
    · rename_i hc; rw [if_neg hc] at h2; exact pdS_mono h h2
def lefS (F : Int) (l : List Sp) : List Sp := l.map fun x => (x.1, min x.2.1 F, x.2.2)
def rigS (T : Int) (l : List Sp) : List Sp := l.map fun x => (max x.1 T, x.2.1, x.2.2)
def cutS (l : List Sp) (x : Sp) : List Sp := lefS x.1 l ++ x :: rigS x.2.1 l
def putS (l : List Sp) (x : Sp) : List Sp := if x.1 = x.2.1 then l else fewS (cutS l x)
theorem pd_left {m F : Int} {R : List Sp} (hR : PdS m F R) : ∀ (l : List Sp) (a st b : Int), OkS m a st l → b ≤ a → b ≤ F → PdS m b (lefS F l ++ R)
  | [], _, _, b, _, _, hb => pdS_mono hb hR
  | (f, t, s) :: l, a, st, b, h, hba, hbF => by
    obtain ⟨⟨h1, h2, h3, h4, h5, h6⟩, h7⟩ := h
    show PdS m b ((f, min t F, s) :: (lefS F l ++ R))
    refine ⟨by omega, ?_⟩
    split
    · exact ⟨by omega, by omega, pd_left hR l t s (min t F) h7 (by omega) (by omega)⟩
    · exact pd_left hR l t s b h7 (by omega) hbF
theorem pd_right {m T : Int} : ∀ (l : List Sp) (a st b : Int), OkS m a st l → b ≤ max a T → PdS m b (rigS T l)
  | [], _, _, _, _, _ => trivial
  | (f, t, s) :: l, a, st, b, h, hb => by
    obtain ⟨⟨h1, h2, h3, h4, h5, h6⟩, h7⟩ := h
    show PdS m b ((max f T, t, s) :: rigS T l)
    refine ⟨by omega, ?_⟩
    split
    · exact ⟨by omega, by omega, pd_right l t s t h7 (by omega)⟩
    · exact pd_right l t s b h7 (by omega)
theorem at_left_in {F k : Int} {R : List Sp} (hk : k < F) (hR : atS R k = 0) : ∀ l : List Sp, atS (lefS F l ++ R) k = atS l k
  | [] => by simpa [lefS, atS] using hR
  | (f, t, s) :: l => by
    show atS ((f, min t F, s) :: (lefS F l ++ R)) k = _
    simp only [atS]
    rw [at_left_in hk hR l]
    by_cases hc : f ≤ k ∧ k < t
    · rw [if_pos (by omega), if_pos hc]
    · rw [if_neg (by omega), if_neg hc]
theorem at_left_out {F k : Int} {R : List Sp} (hk : F ≤ k) : ∀ l : List Sp, atS (lefS F l ++ R) k = atS R k
  | [] => rfl
  | (f, t, s) :: l => by
    show atS ((f, min t F, s) :: (lefS F l ++ R)) k = _
    rw [atS_skip (by omega), at_left_out hk l]
theorem at_right_in {T k : Int} (hk : T ≤ k) : ∀ l : List Sp, atS (rigS T l) k = atS l k
  | [] => rfl
  | (f, t, s) :: l => by
    show atS ((max f T, t, s) :: rigS T l) k = _
    simp only [atS]
    rw [at_right_in hk l]
    by_cases hc : f ≤ k ∧ k < t
    · rw [if_pos (by omega), if_pos hc]
    · rw [if_neg (by omega), if_neg hc]
theorem at_right_out {T k : Int} (hk : k < T) : ∀ l : List Sp, atS (rigS T l) k = 0
  | [] => rfl
  | (f, t, s) :: l => by
    show atS ((max f T, t, s) :: rigS T l) k = _
    rw [atS_skip (by omega), at_right_out hk l]
theorem at_cut {l : List Sp} {F T S : Int} (h : F ≤ T) (k : Int) : atS (cutS l (F, T, S)) k = if F ≤ k ∧ k < T then S else atS l k := by
  unfold cutS
  simp only
  by_cases h1 : k < F
  · rw [if_neg (by omega), at_left_in h1 (by rw [atS_skip (by omega), at_right_out (by omega)])]
  · rw [at_left_out (by omega)]
    by_cases h2 : k < T
    · rw [if_pos (by omega)]; simp only [atS]; rw [if_pos (by omega)]
    · rw [if_neg (by omega), atS_skip (by omega), at_right_in (by omega)]
/-- A style put: as spans may be, and just these bytes have it. -/
theorem putS_ok {m : Int} {l : List Sp} {F T S : Int} (h : OkS m 0 0 l) (h0 : 0 ≤ F) (h1 : F ≤ T) (h2 : T ≤ m) (h3 : 0 ≤ S) (h4 : S ≤ 100) :
    OkS m 0 0 (putS l (F, T, S)) ∧ ∀ k, atS (putS l (F, T, S)) k = if F ≤ k ∧ k < T then S else atS l k := by
  unfold putS
  simp only
  by_cases he : F = T
  · rw [if_pos he]
    exact ⟨h, fun k => by rw [if_neg (by omega)]⟩
  · rw [if_neg he]
    have hp : PdS m 0 (cutS l (F, T, S)) := by
      refine pd_left ?_ l 0 0 0 h (Int.le_refl _) h0
      refine ⟨⟨h3, h4⟩, ?_⟩
      simp only
      rw [if_pos (by omega)]
      exact ⟨Int.le_refl _, h2, pd_right l 0 0 T h (by omega)⟩
    obtain ⟨i1, i2⟩ := fewS_ok hp
    exact ⟨i1, fun k => by rw [i2, at_cut h1]⟩
/-- Spans with the same styles are the same. -/
theorem sp_same {m m' : Int} {l l' : List Sp} (h : OkS m 0 0 l) (h' : OkS m' 0 0 l') (he : ∀ k, 0 ≤ k → atS l k = atS l' k) : l = l' := sp_ext l l' 0 0 h h' he
/-- How many there are at most. -/
def neS (l : List Sp) : Nat := (l.filter fun x => decide (x.1 < x.2.1)).length
theorem neS_cons (x : Sp) (l : List Sp) : neS (x :: l) = (if x.1 < x.2.1 then 1 else 0) + neS l := by
  unfold neS
  rw [List.filter_cons]
  by_cases h : x.1 < x.2.1
  · rw [if_pos (decide_eq_true h), if_pos h, List.length_cons]; omega
  · rw [if_neg (by simpa using h), if_neg h]; omega
theorem neS_append (a b : List Sp) : neS (a ++ b) = neS a + neS b := by simp [neS]
theorem foldS_len : ∀ (l out : List Sp), (l.foldl pushS out).length ≤ out.length + neS l
  | [], out => by simp [neS]
  | x :: l, out => by
    rw [List.foldl_cons, neS_cons]
    by_cases h : x.1 < x.2.1
    · have h1 := foldS_len l (pushS out x)
      have h2 := pushS_len out x
      rw [if_pos h]; omega
    · have h1 := foldS_len l out
      rw [pushS_skip (Or.inl (by omega)), if_neg h]; omega
theorem ne_left_none {m F : Int} : ∀ (l : List Sp) (a st : Int), OkS m a st l → F ≤ a → neS (lefS F l) = 0
  | [], _, _, _, _ => rfl
  | (f, t, s) :: l, a, st, h, hF => by
    obtain ⟨⟨h1, h2, h3, h4, h5, h6⟩, h7⟩ := h
    show neS ((f, min t F, s) :: lefS F l) = 0
    rw [neS_cons, if_neg (by simp only; omega), ne_left_none l t s h7 (by omega)]
theorem ne_le (l : List Sp) : neS l ≤ l.length := by unfold neS; exact List.length_filter_le _ _
theorem ne_both {m F T : Int} (hFT : F ≤ T) : ∀ (l : List Sp) (a st : Int), OkS m a st l → neS (lefS F l) + neS (rigS T l) ≤ l.length + 1
  | [], _, _, _ => by simp [lefS, rigS, neS]
  | (f, t, s) :: l, a, st, h => by
    obtain ⟨⟨h1, h2, h3, h4, h5, h6⟩, h7⟩ := h
    have e1 : lefS F ((f, t, s) :: l) = (f, min t F, s) :: lefS F l := rfl
    have e2 : rigS T ((f, t, s) :: l) = (max f T, t, s) :: rigS T l := rfl
    rw [e1, e2, neS_cons, neS_cons, List.length_cons]
    simp only
    by_cases hc : f < F ∧ T < t
    · have h8 := ne_left_none (F := F) l t s h7 (by omega)
      have h9 := ne_le (rigS T l)
      have h10 : (rigS T l).length = l.length := by simp [rigS]
      split <;> split <;> omega
    · have ih := ne_both hFT l t s h7
      by_cases h8 : f < min t F
      · rw [if_pos h8, if_neg (by omega)]; omega
      · rw [if_neg h8]; split <;> omega
theorem putS_len {m : Int} {l : List Sp} {F T S : Int} (h : OkS m 0 0 l) (h1 : F ≤ T) : (putS l (F, T, S)).length ≤ l.length + 2 := by
  unfold putS
  simp only
  split
  · omega
  · have h2 := foldS_len (cutS l (F, T, S)) []
    have h3 := ne_both h1 l 0 0 h
    unfold cutS at h2
    simp only at h2
    rw [neS_append, neS_cons] at h2
    simp only [List.length_nil] at h2
    unfold fewS cutS
    simp only
    split at h2 <;> omega
/-- Put behind all. -/
theorem putS_end {m : Int} {l : List Sp} {F T S : Int} (h : OkS m 0 0 l) (h0 : (endS 0 0 l).1 ≤ F) (hn : ¬ (F = (endS 0 0 l).1 ∧ S = (endS 0 0 l).2)) (h1 : F < T) (h2 : T ≤ m) (h3 : 1 ≤ S) (h4 : S ≤ 100) : putS l (F, T, S) = l ++ [(F, T, S)] := by
  have hge := endS_ge l 0 0 h
  obtain ⟨p1, p2⟩ := putS_ok (F := F) (T := T) (S := S) h (by omega) (by omega) h2 (by omega) h4
  have q1 : OkS m 0 0 (l ++ [(F, T, S)]) := (okS_append _ _ _ _).2 ⟨h, ⟨h3, h4, h0, h1, h2, hn⟩, trivial⟩
  refine sp_same p1 q1 fun k hk => ?_
  rw [p2, atS_append _ _ 0 0 k h]
  simp only [atS]
  by_cases hc : F ≤ k ∧ k < T
  · rw [if_pos hc, if_neg (by omega), if_pos hc]
  · rw [if_neg hc, if_neg hc]
    by_cases hz : atS l k = 0
    · rw [if_neg (by simp [hz]), hz]
    · have : k < (endS 0 0 l).1 := by
        by_cases hc : k < (endS 0 0 l).1
        · exact hc
        · exact absurd (atS_end l 0 0 k h (by omega) hk) hz
      rw [if_pos ⟨this, hz⟩]
/-- The parts that lie within. -/
def inS15 (a b : Int) (l : List Sp) : List Sp := (l.map fun x => (max x.1 a, min x.2.1 b, x.2.2)).filter fun x => decide (x.1 < x.2.1)
theorem inS15_cons (a b f t s : Int) (l : List Sp) : inS15 a b ((f, t, s) :: l) = if max f a < min t b then (max f a, min t b, s) :: inS15 a b l else inS15 a b l := by
  unfold inS15
  rw [List.map_cons, List.filter_cons]
  simp only [decide_eq_true_eq]
theorem inS15_ok {m a b : Int} (ha : 0 ≤ a) : ∀ (l : List Sp) (c st c' st' : Int), OkS m c st l → c' ≤ max c a → (c' = c ∧ st' = st ∨ c' < max c a ∨ (st' = 0)) → OkS m c' st' (inS15 a b l)
  | [], _, _, _, _, _, _, _ => trivial
  | (f, t, s) :: l, c, st, c', st', h, h1, h2 => by
    obtain ⟨⟨g1, g2, g3, g4, g5, g6⟩, g7⟩ := h
    rw [inS15_cons]
    split
    · rename_i hc
      refine ⟨⟨g1, g2, by omega, hc, by omega, ?_⟩, ?_⟩
      · rintro ⟨e1, e2⟩
        rcases h2 with ⟨rfl, rfl⟩ | h2 | h2
        · by_cases e : f = c'
          · exact g6 ⟨e, e2⟩
          · omega
        · omega
        · omega
      · by_cases hb : t ≤ b
        · refine inS15_ok ha l t s (min t b) s g7 (by omega) (Or.inl ⟨by omega, rfl⟩)
        · exact inS15_ok ha l t s (min t b) s g7 (by omega) (Or.inr (Or.inl (by omega)))
    · rename_i hc
      refine inS15_ok ha l t s c' st' g7 (by omega) ?_
      rcases h2 with ⟨rfl, rfl⟩ | h2 | h2
      · exact Or.inr (Or.inl (by omega))
      · exact Or.inr (Or.inl (by omega))
      · exact Or.inr (Or.inr h2)
theorem at_in15 {m a b : Int} : ∀ (l : List Sp) (c st k : Int), OkS m c st l → atS (inS15 a b l) k = if a ≤ k ∧ k < b then atS l k else 0
  | [], _, _, _, _ => by simp [inS15, atS]
  | (f, t, s) :: l, c, st, k, h => by
    obtain ⟨⟨g1, g2, g3, g4, g5, g6⟩, g7⟩ := h
    have ih := at_in15 (a := a) (b := b) l t s k g7
    rw [inS15_cons]
    by_cases hk : f ≤ k ∧ k < t
    · have e1 : atS ((f, t, s) :: l) k = s := by simp only [atS]; rw [if_pos hk]
      have e2 := atS_ahead l t s k g7 hk.2
      rw [e2] at ih
      have ih : atS (inS15 a b l) k = 0 := by rw [ih]; split <;> rfl
      rw [e1]
      split
      · simp only [atS]
        by_cases hab : a ≤ k ∧ k < b
        · rw [if_pos (by omega), if_pos hab]
        · rw [if_neg (by omega), if_neg hab, ih]
      · rw [ih, if_neg (by omega)]
    · rw [atS_skip hk, ← ih]
      split
      · rw [atS_skip (by omega)]
      · rfl
theorem in15_all {m a b : Int} : ∀ (l : List Sp) (c st : Int), OkS m c st l → a ≤ c → m ≤ b → inS15 a b l = l
  | [], _, _, _, _, _ => rfl
  | (f, t, s) :: l, c, st, h, ha, hb => by
    obtain ⟨⟨g1, g2, g3, g4, g5, g6⟩, g7⟩ := h
    rw [inS15_cons, if_pos (by omega), in15_all l t s g7 (by omega) hb, show max f a = f by omega, show min t b = t by omega]
end Go.Proofs.YtmgjfmgkmlfjeaaDoor
