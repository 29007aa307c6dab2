/- Styles of texts: plain mathematics (layer 15; written ahead of its code). -/
import Derived.Below
namespace Go.Proofs.YtmgjfmgkmlfjeaaDoor
set_option linter.unusedSimpArgs false
set_option linter.unusedVariables false

/-- A span: from, to, a style. -/
abbrev Sp := Int × Int × Int
/-- The style at a byte. -/
def atS : List Sp → Int → Int
  | [], _ => 0
  | (f, t, s) :: l, k => if f ≤ k ∧ k < t then s else atS l k
/-- Spans as they may stand behind last, where the style was st. -/
def okB (m : Int) : Int → Int → List Sp → Bool
  | _, _, [] => true
  | last, st, (f, t, s) :: l => decide (1 ≤ s ∧ s ≤ 100 ∧ last ≤ f ∧ f < t ∧ t ≤ m ∧ ¬ (f = last ∧ s = st)) && okB m t s l
def OkS (m : Int) : Int → Int → List Sp → Prop
  | _, _, [] => True
  | last, st, (f, t, s) :: l => (1 ≤ s ∧ s ≤ 100 ∧ last ≤ f ∧ f < t ∧ t ≤ m ∧ ¬ (f = last ∧ s = st)) ∧ OkS m t s l
theorem okB_spec {m : Int} : ∀ (l : List Sp) (a st : Int), okB m a st l = true ↔ OkS m a st l
  | [], _, _ => by simp [okB, OkS]
  | (f, t, s) :: l, a, st => by
    unfold okB OkS
    rw [Bool.and_eq_true, decide_eq_true_eq, okB_spec l t s]
/-- What Is asks. -/
def isS (n : Int) (l : List Sp) : Bool := decide (l.length ≤ 60) && okB (min n 20000) 0 0 l
theorem isS_spec {n : Int} {l : List Sp} : isS n l = true ↔ l.length ≤ 60 ∧ OkS (min n 20000) 0 0 l := by
  unfold isS
  rw [Bool.and_eq_true, decide_eq_true_eq, okB_spec]
theorem OkS.mono {m m' : Int} (h : m ≤ m') : ∀ {l : List Sp} {a st : Int}, OkS m a st l → OkS m' a st l
  | [], _, _, _ => trivial
  | (f, t, s) :: l, a, st, hk => by
    obtain ⟨⟨h1, h2, h3, h4, h5, h6⟩, h7⟩ := hk
    exact ⟨⟨h1, h2, h3, h4, by omega, h6⟩, OkS.mono h h7⟩
/-- Ahead of where they begin there is no style. -/
theorem atS_ahead {m : Int} : ∀ (l : List Sp) (a st k : Int), OkS m a st l → k < a → atS l k = 0
  | [], _, _, _, _, _ => rfl
  | (f, t, s) :: l, a, st, k, h, hk => by
    obtain ⟨⟨h1, h2, h3, h4, h5, h6⟩, h7⟩ := h
    unfold atS
    rw [if_neg (by omega)]
    exact atS_ahead l t s k h7 (by omega)
theorem atS_beyond {m : Int} : ∀ (l : List Sp) (a st k : Int), OkS m a st l → m ≤ k → atS l k = 0
  | [], _, _, _, _, _ => rfl
  | (f, t, s) :: l, a, st, k, h, hk => by
    obtain ⟨⟨h1, h2, h3, h4, h5, h6⟩, h7⟩ := h
    unfold atS
    rw [if_neg (by omega)]
    exact atS_beyond l t s k h7 hk
/-- Right behind there is another style, or none. -/
theorem atS_next {m : Int} : ∀ (l : List Sp) (t s : Int), OkS m t s l → 1 ≤ s → atS l t ≠ s
  | [], t, s, _, hs => by simp only [atS]; omega
  | (f, u, r) :: l, t, s, h, hs => by
    obtain ⟨⟨h1, h2, h3, h4, h5, h6⟩, h7⟩ := h
    unfold atS
    by_cases e : f = t
    · rw [if_pos (by omega)]
      exact fun er => h6 ⟨e, er⟩
    · rw [if_neg (by omega), atS_ahead l u r t h7 (by omega)]
      omega
theorem atS_range {m : Int} : ∀ (l : List Sp) (a st k : Int), OkS m a st l → 0 ≤ atS l k ∧ atS l k ≤ 100
  | [], _, _, _, _ => by simp [atS]
  | (f, t, s) :: l, a, st, k, h => by
    obtain ⟨⟨h1, h2, h3, h4, h5, h6⟩, h7⟩ := h
    unfold atS
    split
    · omega
    · exact atS_range l t s k h7
/-- Spans are told by the styles that bytes have. -/
theorem sp_ext {m m' : Int} : ∀ (l l' : List Sp) (a st : Int), OkS m a st l → OkS m' a st l' → (∀ k, a ≤ k → atS l k = atS l' k) → l = l'
  | [], [], _, _, _, _, _ => rfl
  | [], (f, t, s) :: l', a, st, _, h', he => by
    obtain ⟨⟨h1, h2, h3, h4, h5, h6⟩, h7⟩ := h'
    have := he f h3
    simp only [atS] at this
    rw [if_pos (by omega)] at this
    omega
  | (f, t, s) :: l, [], a, st, h, _, he => by
    obtain ⟨⟨h1, h2, h3, h4, h5, h6⟩, h7⟩ := h
    have := he f h3
    simp only [atS] at this
    rw [if_pos (by omega)] at this
    omega
  | (f, t, s) :: l, (f', t', s') :: l', a, st, h, h', he => by
    obtain ⟨⟨h1, h2, h3, h4, h5, h6⟩, h7⟩ := h
    obtain ⟨⟨g1, g2, g3, g4, g5, g6⟩, g7⟩ := h'
    have aF : ∀ k, f ≤ k → k < t → atS ((f, t, s) :: l) k = s := fun k k1 k2 => by simp only [atS]; rw [if_pos ⟨k1, k2⟩]
    have aG : ∀ k, f' ≤ k → k < t' → atS ((f', t', s') :: l') k = s' := fun k k1 k2 => by simp only [atS]; rw [if_pos ⟨k1, k2⟩]
    have bF : ∀ k, k < f → atS ((f, t, s) :: l) k = 0 := fun k k1 => by simp only [atS]; rw [if_neg (by omega)]; exact atS_ahead l t s k h7 (by omega)
    have bG : ∀ k, k < f' → atS ((f', t', s') :: l') k = 0 := fun k k1 => by simp only [atS]; rw [if_neg (by omega)]; exact atS_ahead l' t' s' k g7 (by omega)
    have cF : ∀ k, t ≤ k → atS ((f, t, s) :: l) k = atS l k := fun k k1 => by simp only [atS]; rw [if_neg (by omega)]
    have cG : ∀ k, t' ≤ k → atS ((f', t', s') :: l') k = atS l' k := fun k k1 => by simp only [atS]; rw [if_neg (by omega)]
    obtain rfl : f = f' := by
      rcases Int.lt_trichotomy f f' with hl | hl | hl
      · have e := he f h3; rw [aF f (Int.le_refl _) h4, bG f hl] at e; omega
      · exact hl
      · have e := he f' g3; rw [bF f' hl, aG f' (Int.le_refl _) g4] at e; omega
    obtain rfl : s = s' := by have e := he f h3; rwa [aF f (Int.le_refl _) h4, aG f (Int.le_refl _) g4] at e
    obtain rfl : t = t' := by
      rcases Int.lt_trichotomy t t' with hl | hl | hl
      · have e := he t (by omega); rw [cF t (Int.le_refl _), aG t (by omega) hl] at e; exact absurd e (atS_next l t s h7 h1)
      · exact hl
      · have e := he t' (by omega); rw [cG t' (Int.le_refl _), aF t' (by omega) hl] at e; exact absurd e.symm (atS_next l' t' s g7 h1)
    rw [sp_ext l l' t s h7 g7 fun k hk => by have e := he k (by omega); rwa [cF k hk, cG k hk] at e]
/-- Where spans end, and with which style. -/
def endS : Int → Int → List Sp → Int × Int
  | a, st, [] => (a, st)
  | _, _, (_, t, s) :: l => endS t s l
theorem okS_append {m : Int} : ∀ (l r : List Sp) (a st : Int), OkS m a st (l ++ r) ↔ OkS m a st l ∧ OkS m (endS a st l).1 (endS a st l).2 r
  | [], r, a, st => by simp [OkS, endS]
  | (f, t, s) :: l, r, a, st => by
    simp only [List.cons_append, OkS, endS]
    rw [okS_append l r t s]
    exact and_assoc.symm
theorem endS_snoc : ∀ (l : List Sp) (a st f t s : Int), endS a st (l ++ [(f, t, s)]) = (t, s)
  | [], _, _, _, _, _ => rfl
  | (_, t', s') :: l, _, _, f, t, s => endS_snoc l t' s' f t s
theorem endS_ge {m : Int} : ∀ (l : List Sp) (a st : Int), OkS m a st l → a ≤ (endS a st l).1
  | [], _, _, _ => Int.le_refl _
  | (f, t, s) :: l, a, st, h => by
    obtain ⟨⟨h1, h2, h3, h4, h5, h6⟩, h7⟩ := h
    have := endS_ge l t s h7
    show a ≤ (endS t s l).1
    omega
theorem endS_le {m : Int} : ∀ (l : List Sp) (a st : Int), OkS m a st l → a ≤ m → (endS a st l).1 ≤ m
  | [], _, _, _, h => h
  | (f, t, s) :: l, a, st, h, _ => endS_le l t s h.2 h.1.2.2.2.2.1
theorem atS_end {m : Int} : ∀ (l : List Sp) (a st k : Int), OkS m a st l → (endS a st l).1 ≤ k → a ≤ k → atS l k = 0
  | [], _, _, _, _, _, _ => rfl
  | (f, t, s) :: l, a, st, k, h, hk, ha => by
    obtain ⟨⟨h1, h2, h3, h4, h5, h6⟩, h7⟩ := h
    have hk' : (endS t s l).1 ≤ k := hk
    have := endS_ge l t s h7
    unfold atS
    rw [if_neg (by omega)]
    exact atS_end l t s k h7 hk' (by omega)
theorem atS_append {m : Int} : ∀ (l r : List Sp) (a st k : Int), OkS m a st l → atS (l ++ r) k = if k < (endS a st l).1 ∧ atS l k ≠ 0 then atS l k else atS r k
  | [], r, a, st, k, _ => by simp [atS]
  | (f, t, s) :: l, r, a, st, k, h => by
    obtain ⟨⟨h1, h2, h3, h4, h5, h6⟩, h7⟩ := h
    have := endS_ge l t s h7
    have e : endS a st ((f, t, s) :: l) = endS t s l := rfl
    simp only [List.cons_append, atS, e]
    by_cases hc : f ≤ k ∧ k < t
    · rw [if_pos hc, if_pos hc, if_pos ⟨by omega, by omega⟩]
    · rw [if_neg hc, if_neg hc, atS_append l r t s k h7]
/-- A piece more: the fewest spans. -/
def pushS (out : List Sp) (x : Sp) : List Sp :=
  if x.2.1 ≤ x.1 ∨ x.2.2 = 0 then out
  else match out.getLast? with
    | none => out ++ [x]
    | some y => if y.2.1 = x.1 ∧ y.2.2 = x.2.2 then out.dropLast ++ [(y.1, x.2.1, y.2.2)] else out ++ [x]
def fewS (l : List Sp) : List Sp := l.foldl pushS []
/-- Pieces in order from a on, within m. -/
def PdS (m : Int) : Int → List Sp → Prop
  | _, [] => True
  | a, (f, t, s) :: l => (0 ≤ s ∧ s ≤ 100) ∧ if f < t then a ≤ f ∧ t ≤ m ∧ PdS m t l else PdS m a l
theorem pushS_skip {out : List Sp} {x : Sp} (h : x.2.1 ≤ x.1 ∨ x.2.2 = 0) : pushS out x = out := by unfold pushS; rw [if_pos h]
theorem pushS_ok {m : Int} {out : List Sp} {f t s : Int} (ho : OkS m 0 0 out) (he : (endS 0 0 out).1 ≤ f) (hft : f < t) (htm : t ≤ m) (hs1 : 1 ≤ s) (hs2 : s ≤ 100) :
    OkS m 0 0 (pushS out (f, t, s)) ∧ (endS 0 0 (pushS out (f, t, s))).1 = t ∧ ∀ k, atS (pushS out (f, t, s)) k = if f ≤ k ∧ k < t then s else atS out k := by
  have h0 := endS_ge out 0 0 ho
  unfold pushS
  rw [if_neg (by simp only; omega)]
  have plain : ¬ (f = (endS 0 0 out).1 ∧ s = (endS 0 0 out).2) → OkS m 0 0 (out ++ [(f, t, s)]) ∧ (endS 0 0 (out ++ [(f, t, s)])).1 = t ∧ ∀ k, atS (out ++ [(f, t, s)]) k = if f ≤ k ∧ k < t then s else atS out k := fun hn => by
    refine ⟨(okS_append _ _ _ _).2 ⟨ho, ⟨hs1, hs2, he, hft, htm, hn⟩, trivial⟩, by rw [endS_snoc], fun k => ?_⟩
    rw [atS_append _ _ 0 0 k ho]
    simp only [atS]
    by_cases hk : f ≤ k ∧ k < t
    · rw [if_neg (by omega), if_pos hk, if_pos hk]
    · rw [if_neg hk, if_neg hk]
      by_cases hz : atS out k = 0
      · rw [if_neg (by simp [hz]), hz]
      · have : k < (endS 0 0 out).1 := by
          by_cases hc : k < (endS 0 0 out).1
          · exact hc
          · by_cases hneg : 0 ≤ k
            · exact absurd (atS_end out 0 0 k ho (by omega) hneg) hz
            · omega
        rw [if_pos ⟨this, hz⟩]
  cases hl : out.getLast? with
  | none =>
    obtain rfl : out = [] := List.getLast?_eq_none_iff.1 hl
    exact plain (by simp only [endS]; omega)
  | some y =>
    obtain ⟨f', t', s'⟩ := y
    obtain ⟨r, rfl⟩ : ∃ r, out = r ++ [(f', t', s')] := ⟨out.dropLast, by
      have hne : out ≠ [] := by intro e; subst e; cases hl
      rw [List.getLast?_eq_some_getLast hne] at hl
      have := List.dropLast_concat_getLast hne
      rw [Option.some.inj hl] at this
      exact this.symm⟩
    simp only
    rw [endS_snoc] at he plain h0
    by_cases hm : t' = f ∧ s' = s
    · obtain ⟨rfl, rfl⟩ := hm
      rw [if_pos ⟨rfl, rfl⟩, List.dropLast_concat]
      obtain ⟨o1, ⟨o2, o3, o4, o5, o6, o7⟩, _⟩ := (okS_append _ _ _ _).1 ho
      refine ⟨(okS_append _ _ _ _).2 ⟨o1, ⟨o2, o3, o4, by omega, htm, o7⟩, trivial⟩, by rw [endS_snoc], fun k => ?_⟩
      rw [atS_append _ _ 0 0 k o1, atS_append _ _ 0 0 k o1]
      simp only [atS]
      by_cases hk : t' ≤ k ∧ k < t
      · rw [if_pos hk, if_neg (by omega), if_pos (by omega)]
      · rw [if_neg hk]
        by_cases hc : k < (endS 0 0 r).1 ∧ atS r k ≠ 0
        · rw [if_pos hc, if_pos hc]
        · rw [if_neg hc, if_neg hc]
          by_cases hf : f' ≤ k ∧ k < t'
          · rw [if_pos (by omega), if_pos hf]
          · rw [if_neg (by omega), if_neg hf]
    · rw [if_neg hm]
      exact plain (by simp only; omega)
theorem atS_skip {l : List Sp} {f t s k : Int} (h : ¬ (f ≤ k ∧ k < t)) : atS ((f, t, s) :: l) k = atS l k := by simp only [atS]; rw [if_neg h]
theorem atS_pd {m : Int} : ∀ (l : List Sp) (a k : Int), PdS m a l → k < a → atS l k = 0
  | [], _, _, _, _ => rfl
  | (f, t, s) :: l, a, k, h, hk => by
    obtain ⟨h1, h2⟩ := h
    split at h2
    · rw [atS_skip (by omega)]
      exact atS_pd l t k h2.2.2 (by omega)
    · rw [atS_skip (by omega)]
      exact atS_pd l a k h2 hk
theorem foldS_ok {m : Int} : ∀ (l : List Sp) (out : List Sp) (a : Int), OkS m 0 0 out → (endS 0 0 out).1 ≤ a → PdS m a l →
    OkS m 0 0 (l.foldl pushS out) ∧ ∀ k, atS (l.foldl pushS out) k = if atS l k ≠ 0 then atS l k else atS out k
  | [], out, a, ho, _, _ => ⟨ho, fun k => by simp [atS]⟩
  | (f, t, s) :: l, out, a, ho, he, h => by
    obtain ⟨⟨h0, h1⟩, h2⟩ := h
    rw [List.foldl_cons]
    by_cases hft : f < t
    · rw [if_pos hft] at h2
      obtain ⟨h3, h4, h5⟩ := h2
      by_cases hs : s = 0
      · rw [pushS_skip (Or.inr hs)]
        obtain ⟨i1, i2⟩ := foldS_ok l out t ho (by omega) h5
        refine ⟨i1, fun k => ?_⟩
        rw [i2]
        by_cases hk : f ≤ k ∧ k < t
        · have e1 := atS_pd l t k h5 hk.2
          have e2 : atS ((f, t, s) :: l) k = 0 := by simp only [atS]; rw [if_pos hk, hs]
          rw [e1, e2]
        · rw [atS_skip hk]
      · obtain ⟨p1, p2, p3⟩ := pushS_ok ho (by omega) hft h4 (by omega) h1
        obtain ⟨i1, i2⟩ := foldS_ok l (pushS out (f, t, s)) t p1 (by omega) h5
        refine ⟨i1, fun k => ?_⟩
        rw [i2, p3]
        by_cases hk : f ≤ k ∧ k < t
        · have e1 := atS_pd l t k h5 hk.2
          have e2 : atS ((f, t, s) :: l) k = s := by simp only [atS]; rw [if_pos hk]
          rw [e1, e2, if_neg (by simp), if_pos hk, if_pos hs]
        · rw [atS_skip hk, if_neg hk]
    · rw [if_neg hft] at h2
      rw [pushS_skip (Or.inl (by simp only; omega))]
      obtain ⟨i1, i2⟩ := foldS_ok l out a ho he h2
      refine ⟨i1, fun k => ?_⟩
      rw [i2, atS_skip (by omega)]
/-- The fewest spans of pieces in order. -/
theorem fewS_ok {m : Int} {l : List Sp} (h : PdS m 0 l) : OkS m 0 0 (fewS l) ∧ ∀ k, atS (fewS l) k = atS l k := by
  obtain ⟨h1, h2⟩ := foldS_ok l [] 0 trivial (Int.le_refl _) h
  refine ⟨h1, fun k => ?_⟩
  unfold fewS
  rw [h2]
  split
  · rfl
  · rename_i hz; simp only [atS]; simpa using (Classical.not_not.1 hz).symm
theorem pushS_len (out : List Sp) (x : Sp) : (pushS out x).length ≤ out.length + 1 := by
  unfold pushS
  split
  · omega
  · split
    · simp
    · split
      · simp
      · simp
end Go.Proofs.YtmgjfmgkmlfjeaaDoor
