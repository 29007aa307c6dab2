/- What the program's rows answer: plain mathematics (layer 15). -/
import Derived.Test.YtmgjfmgkmlfjeaaDoorSpPut
namespace Go.Proofs.YtmgjfmgkmlfjeaaDoor
set_option linter.unusedSimpArgs false
set_option linter.unusedVariables false

/-- How far the program's 'isLeast' has come. -/
def lstB (m : Int) : Int → Int → List Sp → Bool
  | _, _, [] => true
  | last, st, (f, t, s) :: l => decide (last ≤ f ∧ f < t ∧ t ≤ m ∧ s ≠ 0 ∧ ¬ (f = last ∧ s = st)) && lstB m t s l
/-- All styles are such. -/
def styB (l : List Sp) : Bool := l.all fun x => decide (1 ≤ x.2.2 ∧ x.2.2 ≤ 100)
theorem sty_lst {m : Int} : ∀ (l : List Sp) (a st : Int), (styB l && lstB m a st l) = okB m a st l
  | [], _, _ => rfl
  | (f, t, s) :: l, a, st => by
    have ih := sty_lst (m := m) l t s
    unfold styB at ih ⊢
    rw [List.all_cons, okB, lstB, ← ih]
    by_cases h1 : 1 ≤ s ∧ s ≤ 100
    · have e : decide (a ≤ f ∧ f < t ∧ t ≤ m ∧ s ≠ 0 ∧ ¬ (f = a ∧ s = st)) = decide (1 ≤ s ∧ s ≤ 100 ∧ a ≤ f ∧ f < t ∧ t ≤ m ∧ ¬ (f = a ∧ s = st)) := decide_eq_decide.2 (by omega)
      rw [e, decide_eq_true (p := 1 ≤ ((f, t, s) : Sp).2.2 ∧ ((f, t, s) : Sp).2.2 ≤ 100) h1, Bool.true_and]
      rw [← Bool.and_assoc, ← Bool.and_assoc]
      congr 1
      exact Bool.and_comm _ _
    · rw [decide_eq_false (p := 1 ≤ ((f, t, s) : Sp).2.2 ∧ ((f, t, s) : Sp).2.2 ≤ 100) h1, Bool.false_and, Bool.false_and, decide_eq_false (p := 1 ≤ s ∧ s ≤ 100 ∧ a ≤ f ∧ f < t ∧ t ≤ m ∧ ¬ (f = a ∧ s = st)) (by omega), Bool.false_and]
theorem isS_parts (n : Int) (l : List Sp) : isS n l = (decide (l.length ≤ 60) && (styB l && lstB (min n 20000) 0 0 l)) := by unfold isS; rw [sty_lst]
theorem pd_inl {m F : Int} {R : List Sp} (hR : PdS m F R) (hF : F ≤ m) : ∀ (l : List Sp) (a st b : Int), OkS m a st l → 0 ≤ a → b ≤ a → b ≤ F → PdS m b (inS15 0 F l ++ R)
  | [], _, _, b, _, _, _, hb => pdS_mono hb hR
  | (f, t, s) :: l, a, st, b, h, ha, hba, hbF => by
    obtain ⟨⟨h1, h2, h3, h4, h5, h6⟩, h7⟩ := h
    rw [inS15_cons]
    split
    · rename_i hc
      show PdS m b ((max f 0, min t F, s) :: (inS15 0 F l ++ R))
      refine ⟨by omega, ?_⟩
      rw [if_pos hc]
      exact ⟨by omega, by omega, pd_inl hR hF l t s (min t F) h7 (by omega) (by omega) (by omega)⟩
    · exact pd_inl hR hF l t s b h7 (by omega) (by omega) hbF
theorem pd_inr {m T n : Int} : ∀ (l : List Sp) (a st b : Int), OkS m a st l → b ≤ max a T → PdS m b (inS15 T n l)
  | [], _, _, _, _, _ => trivial
  | (f, t, s) :: l, a, st, b, h, hb => by
    obtain ⟨⟨h1, h2, h3, h4, h5, h6⟩, h7⟩ := h
    rw [inS15_cons]
    split
    · rename_i hc
      show PdS m b ((max f T, min t n, s) :: inS15 T n l)
      refine ⟨by omega, ?_⟩
      rw [if_pos hc]
      exact ⟨by omega, by omega, pd_inr l t s (min t n) h7 (by omega)⟩
    · exact pd_inr l t s b h7 (by omega)
/-- The program's put. -/
def prgS (m : Int) (l : List Sp) (x : Sp) : List Sp := fewS (inS15 0 x.1 l ++ x :: inS15 x.2.1 m l)
theorem prgS_ok {m : Int} {l : List Sp} {F T S : Int} (h : OkS m 0 0 l) (h0 : 0 ≤ F) (h1 : F ≤ T) (h2 : T ≤ m) (h3 : 0 ≤ S) (h4 : S ≤ 100) : prgS m l (F, T, S) = putS l (F, T, S) := by
  obtain ⟨p1, p2⟩ := putS_ok h h0 h1 h2 h3 h4
  have hp : PdS m 0 (inS15 0 F l ++ (F, T, S) :: inS15 T m l) := by
    refine pd_inl ?_ (by omega) l 0 0 0 h (Int.le_refl _) (Int.le_refl _) h0
    refine ⟨⟨h3, h4⟩, ?_⟩
    by_cases hc : F < T
    · rw [if_pos hc]
      exact ⟨Int.le_refl _, h2, pd_inr l 0 0 T h (by omega)⟩
    · rw [if_neg hc]
      exact pd_inr l 0 0 F h (by omega)
  obtain ⟨i1, i2⟩ := fewS_ok hp
  have hA : OkS m 0 0 (inS15 0 F l) := inS15_ok (Int.le_refl _) l 0 0 0 0 h (by omega) (Or.inl ⟨rfl, rfl⟩)
  refine sp_same i1 p1 fun k hk => ?_
  show atS (fewS (inS15 0 F l ++ (F, T, S) :: inS15 T m l)) k = _
  rw [i2, p2, atS_append _ _ 0 0 k hA]
  have hB := at_in15 (a := T) (b := m) l 0 0 k h
  have hC := at_in15 (a := 0) (b := F) l 0 0 k h
  have hend : atS (inS15 0 F l) k ≠ 0 → k < (endS 0 0 (inS15 0 F l)).1 := fun hz => by
    by_cases hc : k < (endS 0 0 (inS15 0 F l)).1
    · exact hc
    · exact absurd (atS_end _ 0 0 k hA (by omega) hk) hz
  by_cases k1 : k < F
  · rw [if_pos (by omega)] at hC
    rw [if_neg (by omega)] at hB
    rw [if_neg (c := F ≤ k ∧ k < T) (by omega), atS_skip (by omega), hB]
    by_cases hz : atS (inS15 0 F l) k = 0
    · rw [if_neg (by simp [hz]), ← hC, hz]
    · rw [if_pos ⟨hend hz, hz⟩, hC]
  · rw [if_neg (by omega)] at hC
    rw [if_neg (by simp [hC])]
    by_cases k2 : k < T
    · rw [if_pos (by omega)]; simp only [atS]; rw [if_pos (by omega)]
    · rw [if_neg (by omega), atS_skip (by omega), hB]
      by_cases k3 : k < m
      · rw [if_pos (by omega)]
      · rw [if_neg (by omega), atS_beyond l 0 0 k h (by omega)]
theorem inS15_append (a b : Int) (l r : List Sp) : inS15 a b (l ++ r) = inS15 a b l ++ inS15 a b r := by simp [inS15]
theorem inS15_take {a b : Int} {l : List Sp} {k : Nat} {f t s : Int} (hr : l[k]? = some (f, t, s)) : inS15 a b (l.take (k + 1)) = inS15 a b (l.take k) ++ (if max f a < min t b then [(max f a, min t b, s)] else []) := by
  have e : l.take (k + 1) = l.take k ++ [(f, t, s)] := by rw [List.take_add_one, hr]; rfl
  rw [e, inS15_append, inS15_cons]
  rfl
theorem inS15_len (a b : Int) (l : List Sp) : (inS15 a b l).length ≤ l.length := by
  unfold inS15
  exact Nat.le_trans (List.length_filter_le _ _) (by simp)
theorem fewS_take {l : List Sp} {k : Nat} {x : Sp} (hr : l[k]? = some x) : fewS (l.take (k + 1)) = pushS (fewS (l.take k)) x := by
  have e : l.take (k + 1) = l.take k ++ [x] := by rw [List.take_add_one, hr]; rfl
  unfold fewS
  rw [e, List.foldl_append]
  rfl
theorem fewS_len (l : List Sp) : (fewS l).length ≤ l.length := by
  have h1 := foldS_len l []
  have h2 := ne_le l
  unfold fewS
  simp only [List.length_nil] at h1
  omega
theorem pushS_join {A : List Sp} {f t s f' t' s' : Int} (h1 : f < t) (h2 : s ≠ 0) (e1 : f = t') (e2 : s = s') : pushS (A ++ [(f', t', s')]) (f, t, s) = A ++ [(f', t, s')] := by
  unfold pushS
  rw [if_neg (by simp only; omega), List.getLast?_concat]
  simp only
  rw [if_pos ⟨e1.symm, e2.symm⟩, List.dropLast_concat]
theorem pushS_new {A : List Sp} {f t s f' t' s' : Int} (h1 : f < t) (h2 : s ≠ 0) (e : ¬ (f = t' ∧ s = s')) : pushS (A ++ [(f', t', s')]) (f, t, s) = A ++ [(f', t', s')] ++ [(f, t, s)] := by
  unfold pushS
  rw [if_neg (by simp only; omega), List.getLast?_concat]
  simp only
  rw [if_neg (by omega)]
theorem pushS_nil {f t s : Int} (h1 : f < t) (h2 : s ≠ 0) : pushS [] (f, t, s) = [(f, t, s)] := by
  unfold pushS
  rw [if_neg (by simp only; omega)]
  rfl
/-- What may be put. -/
def toP (x : Sp) : Bool := decide ((x.2.2 = 0 ∨ 1 ≤ x.2.2 ∧ x.2.2 ≤ 100) ∧ 0 ≤ x.1 ∧ x.1 ≤ x.2.1 ∧ x.2.1 ≤ 20000)
theorem toP_spec {F T S : Int} : toP (F, T, S) = true ↔ 0 ≤ S ∧ S ≤ 100 ∧ 0 ≤ F ∧ F ≤ T ∧ T ≤ 20000 := by
  unfold toP; rw [decide_eq_true_eq]; simp only; omega
/-- Put's errors, and its spans. -/
def putE (l : List Sp) (x : Sp) : Int := if isS 20000 l = true ∧ toP x = true then (if (putS l x).length ≤ 60 then 0 else 70) else 12
def putL (l : List Sp) (x : Sp) : List Sp := if putE l x = 0 then putS l x else []
theorem putE_no {l : List Sp} {x : Sp} (h : ¬ (isS 20000 l = true ∧ toP x = true)) : putE l x = 12 ∧ putL l x = [] := by
  have e : putE l x = 12 := if_neg h
  exact ⟨e, by unfold putL; rw [e]; rfl⟩
theorem putE_many {l : List Sp} {x : Sp} (h : isS 20000 l = true ∧ toP x = true) (hl : ¬ (putS l x).length ≤ 60) : putE l x = 70 ∧ putL l x = [] := by
  have e : putE l x = 70 := by unfold putE; rw [if_pos h, if_neg hl]
  exact ⟨e, by unfold putL; rw [e]; rfl⟩
theorem putE_ok {l : List Sp} {x : Sp} (h : isS 20000 l = true ∧ toP x = true) (hl : (putS l x).length ≤ 60) : putE l x = 0 ∧ putL l x = putS l x := by
  have e : putE l x = 0 := by unfold putE; rw [if_pos h, if_pos hl]
  exact ⟨e, by unfold putL; rw [if_pos e]⟩
theorem prg_put {l : List Sp} {x : Sp} (h : isS 20000 l = true ∧ toP x = true) : prgS 20000 l x = putS l x := by
  obtain ⟨F, T, S⟩ := x
  obtain ⟨h1, h2, h3, h4, h5⟩ := toP_spec.1 h.2
  exact prgS_ok (isS_spec.1 h.1).2 h3 h4 h5 h1 h2
end Go.Proofs.YtmgjfmgkmlfjeaaDoor
