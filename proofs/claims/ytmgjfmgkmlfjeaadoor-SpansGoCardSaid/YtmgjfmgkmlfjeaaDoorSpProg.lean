/- Styles of texts: plain mathematics (layer 15; written ahead of its code). A style put upon bytes: plain mathematics (layer 15; written ahead of its code). What the program's rows answer: plain mathematics (layer 15). -/
import Derived.Below
namespace Go.Proofs.YtmgjfmgkmlfjeaaDoor
set_option linter.unusedSimpArgs false
set_option linter.unusedVariables false

/-- A span: from, to, a style. -/
abbrev Sp := Int × Int × Int
/-- The style at a byte. -/
def atS : List Sp → Int → Int
  | [], _ => 0
  | (f, t, s) :: l, k => if f ≤ k ∧ k < t then s else atS l k
/-- Spans as they may stand behind last, where the style was st. -/
def okB (m : Int) : Int → Int → List Sp → Bool
  | _, _, [] => true
  | last, st, (f, t, s) :: l => decide (1 ≤ s ∧ s ≤ 100 ∧ last ≤ f ∧ f < t ∧ t ≤ m ∧ ¬ (f = last ∧ s = st)) && okB m t s l
def OkS (m : Int) : Int → Int → List Sp → Prop
  | _, _, [] => True
  | last, st, (f, t, s) :: l => (1 ≤ s ∧ s ≤ 100 ∧ last ≤ f ∧ f < t ∧ t ≤ m ∧ ¬ (f = last ∧ s = st)) ∧ OkS m t s l
theorem okB_spec {m : Int} : ∀ (l : List Sp) (a st : Int), okB m a st l = true ↔ OkS m a st l
  | [], _, _ => by simp [okB, OkS]
  | (f, t, s) :: l, a, st => by
    unfold okB OkS
    rw [Bool.and_eq_true, decide_eq_true_eq, okB_spec l t s]
/-- What Is asks. -/
def isS (n : Int) (l : List Sp) : Bool := decide (l.length ≤ 60) && okB (min n 20000) 0 0 l
theorem isS_spec {n : Int} {l : List Sp} : isS n l = true ↔ l.length ≤ 60 ∧ OkS (min n 20000) 0 0 l := by
  unfold isS
  rw [Bool.and_eq_true, decide_eq_true_eq, okB_spec]
theorem OkS.mono {m m' : Int} (h : m ≤ m') : ∀ {l : List Sp} {a st : Int}, OkS m a st l → OkS m' a st l
  | [], _, _, _ => trivial
  | (f, t, s) :: l, a, st, hk => by
    obtain ⟨⟨h1, h2, h3, h4, h5, h6⟩, h7⟩ := hk
    exact ⟨⟨h1, h2, h3, h4, by omega, h6⟩, OkS.mono h h7⟩
/-- Ahead of where they begin there is no style. -/
theorem atS_ahead {m : Int} : ∀ (l : List Sp) (a st k : Int), OkS m a st l → k < a → atS l k = 0
  | [], _, _, _, _, _ => rfl
  | (f, t, s) :: l, a, st, k, h, hk => by
    obtain ⟨⟨h1, h2, h3, h4, h5, h6⟩, h7⟩ := h
    unfold atS
    rw [if_neg (by omega)]
    exact atS_ahead l t s k h7 (by omega)
theorem atS_beyond {m : Int} : ∀ (l : List Sp) (a st k : Int), OkS m a st l → m ≤ k → atS l k = 0
  | [], _, _, _, _, _ => rfl
  | (f, t, s) :: l, a, st, k, h, hk => by
    obtain ⟨⟨h1, h2, h3, h4, h5, h6⟩, h7⟩ := h
    unfold atS
    rw [if_neg (by omega)]
    exact atS_beyond l t s k h7 hk
/-- Right behind there is another style, or none. -/
theorem atS_next {m : Int} : ∀ (l : List Sp) (t s : Int), OkS m t s l → 1 ≤ s → atS l t ≠ s
  | [], t, s, _, hs => by simp only [atS]; omega
  | (f, u, r) :: l, t, s, h, hs => by
    obtain ⟨⟨h1, h2, h3, h4, h5, h6⟩, h7⟩ := h
    unfold atS
    by_cases e : f = t
    · rw [if_pos (by omega)]
      exact fun er => h6 ⟨e, er⟩
    · rw [if_neg (by omega), atS_ahead l u r t h7 (by omega)]
      omega
theorem atS_range {m : Int} : ∀ (l : List Sp) (a st k : Int), OkS m a st l → 0 ≤ atS l k ∧ atS l k ≤ 100
  | [], _, _, _, _ => by simp [atS]
  | (f, t, s) :: l, a, st, k, h => by
    obtain ⟨⟨h1, h2, h3, h4, h5, h6⟩, h7⟩ := h
    unfold atS
    split
    · omega
    · exact atS_range l t s k h7
/-- Spans are told by the styles that bytes have. -/
theorem sp_ext {m m' : Int} : ∀ (l l' : List Sp) (a st : Int), OkS m a st l → OkS m' a st l' → (∀ k, a ≤ k → atS l k = atS l' k) → l = l'
  | [], [], _, _, _, _, _ => rfl
  | [], (f, t, s) :: l', a, st, _, h', he => by
    obtain ⟨⟨h1, h2, h3, h4, h5, h6⟩, h7⟩ := h'
    have := he f h3
    simp only [atS] at this
    rw [if_pos (by omega)] at this
    omega
  | (f, t, s) :: l, [], a, st, h, _, he => by
    obtain ⟨⟨h1, h2, h3, h4, h5, h6⟩, h7⟩ := h
    have := he f h3
    simp only [atS] at this
    rw [if_pos (by omega)] at this
    omega
  | (f, t, s) :: l, (f', t', s') :: l', a, st, h, h', he => by
    obtain ⟨⟨h1, h2, h3, h4, h5, h6⟩, h7⟩ := h
    obtain ⟨⟨g1, g2, g3, g4, g5, g6⟩, g7⟩ := h'
    have aF : ∀ k, f ≤ k → k < t → atS ((f, t, s) :: l) k = s := fun k k1 k2 => by simp only [atS]; rw [if_pos ⟨k1, k2⟩]
    have aG : ∀ k, f' ≤ k → k < t' → atS ((f', t', s') :: l') k = s' := fun k k1 k2 => by simp only [atS]; rw [if_pos ⟨k1, k2⟩]
    have bF : ∀ k, k < f → atS ((f, t, s) :: l) k = 0 := fun k k1 => by simp only [atS]; rw [if_neg (by omega)]; exact atS_ahead l t s k h7 (by omega)
    have bG : ∀ k, k < f' → atS ((f', t', s') :: l') k = 0 := fun k k1 => by simp only [atS]; rw [if_neg (by omega)]; exact atS_ahead l' t' s' k g7 (by omega)
    have cF : ∀ k, t ≤ k → atS ((f, t, s) :: l) k = atS l k := fun k k1 => by simp only [atS]; rw [if_neg (by omega)]
    have cG : ∀ k, t' ≤ k → atS ((f', t', s') :: l') k = atS l' k := fun k k1 => by simp only [atS]; rw [if_neg (by omega)]
    obtain rfl : f = f' := by
      rcases Int.lt_trichotomy f f' with hl | hl | hl
      · have e := he f h3; rw [aF f (Int.le_refl _) h4, bG f hl] at e; omega
      · exact hl
      · have e := he f' g3; rw [bF f' hl, aG f' (Int.le_refl _) g4] at e; omega
    obtain rfl : s = s' := by have e := he f h3; rwa [aF f (Int.le_refl _) h4, aG f (Int.le_refl _) g4] at e
    obtain rfl : t = t' := by
      rcases Int.lt_trichotomy t t' with hl | hl | hl
      · have e := he t (by omega); rw [cF t (Int.le_refl _), aG t (by omega) hl] at e; exact absurd e (atS_next l t s h7 h1)
      · exact hl
      · have e := he t' (by omega); rw [cG t' (Int.le_refl _), aF t' (by omega) hl] at e; exact absurd e.symm (atS_next l' t' s g7 h1)
    rw [sp_ext l l' t s h7 g7 fun k hk => by have e := he k (by omega); rwa [cF k hk, cG k hk] at e]
/-- Where spans end, and with which style. -/
def endS : Int → Int → List Sp → Int × Int
  | a, st, [] => (a, st)
  | _, _, (_, t, s) :: l => endS t s l
theorem okS_append {m : Int} : ∀ (l r : List Sp) (a st : Int), OkS m a st (l ++ r) ↔ OkS m a st l ∧ OkS m (endS a st l).1 (endS a st l).2 r
  | [], r, a, st => by simp [OkS, endS]
  | (f, t, s) :: l, r, a, st => by
    simp only [List.cons_append, OkS, endS]
    rw [okS_append l r t s]
    exact and_assoc.symm
theorem endS_snoc : ∀ (l : List Sp) (a st f t s : Int), endS a st (l ++ [(f, t, s)]) = (t, s)
  | [], _, _, _, _, _ => rfl
  | (_, t', s') :: l, _, _, f, t, s => endS_snoc l t' s' f t s
theorem endS_ge {m : Int} : ∀ (l : List Sp) (a st : Int), OkS m a st l → a ≤ (endS a st l).1
  | [], _, _, _ => Int.le_refl _
  | (f, t, s) :: l, a, st, h => by
    obtain ⟨⟨h1, h2, h3, h4, h5, h6⟩, h7⟩ := h
    have := endS_ge l t s h7
    show a ≤ (endS t s l).1
    omega
theorem endS_le {m : Int} : ∀ (l : List Sp) (a st : Int), OkS m a st l → a ≤ m → (endS a st l).1 ≤ m
  | [], _, _, _, h => h
  | (f, t, s) :: l, a, st, h, _ => endS_le l t s h.2 h.1.2.2.2.2.1
theorem atS_end {m : Int} : ∀ (l : List Sp) (a st k : Int), OkS m a st l → (endS a st l).1 ≤ k → a ≤ k → atS l k = 0
  | [], _, _, _, _, _, _ => rfl
  | (f, t, s) :: l, a, st, k, h, hk, ha => by
    obtain ⟨⟨h1, h2, h3, h4, h5, h6⟩, h7⟩ := h
    have hk' : (endS t s l).1 ≤ k := hk
    have := endS_ge l t s h7
    unfold atS
    rw [if_neg (by omega)]
    exact atS_end l t s k h7 hk' (by omega)
theorem atS_append {m : Int} : ∀ (l r : List Sp) (a st k : Int), OkS m a st l → atS (l ++ r) k = if k < (endS a st l).1 ∧ atS l k ≠ 0 then atS l k else atS r k
  | [], r, a, st, k, _ => by simp [atS]
  | (f, t, s) :: l, r, a, st, k, h => by
    obtain ⟨⟨h1, h2, h3, h4, h5, h6⟩, h7⟩ := h
    have := endS_ge l t s h7
    have e : endS a st ((f, t, s) :: l) = endS t s l := rfl
    simp only [List.cons_append, atS, e]
    by_cases hc : f ≤ k ∧ k < t
    · rw [if_pos hc, if_pos hc, if_pos ⟨by omega, by omega⟩]
    · rw [if_neg hc, if_neg hc, atS_append l r t s k h7]
/-- A piece more: the fewest spans. -/
def pushS (out : List Sp) (x : Sp) : List Sp :=
  if x.2.1 ≤ x.1 ∨ x.2.2 = 0 then out
  else match out.getLast? with
    | none => out ++ [x]
    | some y => if y.2.1 = x.1 ∧ y.2.2 = x.2.2 then out.dropLast ++ [(y.1, x.2.1, y.2.2)] else out ++ [x]
def fewS (l : List Sp) : List Sp := l.foldl pushS []
/-- Pieces in order from a on, within m. -/
def PdS (m : Int) : Int → List Sp → Prop
  | _, [] => True
  | a, (f, t, s) :: l => (0 ≤ s ∧ s ≤ 100) ∧ if f < t then a ≤ f ∧ t ≤ m ∧ PdS m t l else PdS m a l
theorem pushS_skip {out : List Sp} {x : Sp} (h : x.2.1 ≤ x.1 ∨ x.2.2 = 0) : pushS out x = out := by unfold pushS; rw [if_pos h]
theorem pushS_ok {m : Int} {out : List Sp} {f t s : Int} (ho : OkS m 0 0 out) (he : (endS 0 0 out).1 ≤ f) (hft : f < t) (htm : t ≤ m) (hs1 : 1 ≤ s) (hs2 : s ≤ 100) :
    OkS m 0 0 (pushS out (f, t, s)) ∧ (endS 0 0 (pushS out (f, t, s))).1 = t ∧ ∀ k, atS (pushS out (f, t, s)) k = if f ≤ k ∧ k < t then s else atS out k := by
  have h0 := endS_ge out 0 0 ho
  unfold pushS
  rw [if_neg (by simp only; omega)]
  have plain : ¬ (f = (endS 0 0 out).1 ∧ s = (endS 0 0 out).2) → OkS m 0 0 (out ++ [(f, t, s)]) ∧ (endS 0 0 (out ++ [(f, t, s)])).1 = t ∧ ∀ k, atS (out ++ [(f, t, s)]) k = if f ≤ k ∧ k < t then s else atS out k := fun hn => by
    refine ⟨(okS_append _ _ _ _).2 ⟨ho, ⟨hs1, hs2, he, hft, htm, hn⟩, trivial⟩, by rw [endS_snoc], fun k => ?_⟩
    rw [atS_append _ _ 0 0 k ho]
    simp only [atS]
    by_cases hk : f ≤ k ∧ k < t
    · rw [if_neg (by omega), if_pos hk, if_pos hk]
    · rw [if_neg hk, if_neg hk]
      by_cases hz : atS out k = 0
      · rw [if_neg (by simp [hz]), hz]
      · have : k < (endS 0 0 out).1 := by
          by_cases hc : k < (endS 0 0 out).1
          · exact hc
          · by_cases hneg : 0 ≤ k
            · exact absurd (atS_end out 0 0 k ho (by omega) hneg) hz
            · omega
        rw [if_pos ⟨this, hz⟩]
  cases hl : out.getLast? with
  | none =>
    obtain rfl : out = [] := List.getLast?_eq_none_iff.1 hl
    exact plain (by simp only [endS]; omega)
  | some y =>
    obtain ⟨f', t', s'⟩ := y
    obtain ⟨r, rfl⟩ : ∃ r, out = r ++ [(f', t', s')] := ⟨out.dropLast, by
      have hne : out ≠ [] := by intro e; subst e; cases hl
      rw [List.getLast?_eq_some_getLast hne] at hl
      have := List.dropLast_concat_getLast hne
      rw [Option.some.inj hl] at this
      exact this.symm⟩
    simp only
    rw [endS_snoc] at he plain h0
    by_cases hm : t' = f ∧ s' = s
    · obtain ⟨rfl, rfl⟩ := hm
      rw [if_pos ⟨rfl, rfl⟩, List.dropLast_concat]
      obtain ⟨o1, ⟨o2, o3, o4, o5, o6, o7⟩, _⟩ := (okS_append _ _ _ _).1 ho
      refine ⟨(okS_append _ _ _ _).2 ⟨o1, ⟨o2, o3, o4, by omega, htm, o7⟩, trivial⟩, by rw [endS_snoc], fun k => ?_⟩
      rw [atS_append _ _ 0 0 k o1, atS_append _ _ 0 0 k o1]
      simp only [atS]
      by_cases hk : t' ≤ k ∧ k < t
      · rw [if_pos hk, if_neg (by omega), if_pos (by omega)]
      · rw [if_neg hk]
        by_cases hc : k < (endS 0 0 r).1 ∧ atS r k ≠ 0
        · rw [if_pos hc, if_pos hc]
        · rw [if_neg hc, if_neg hc]
          by_cases hf : f' ≤ k ∧ k < t'
          · rw [if_pos (by omega), if_pos hf]
          · rw [if_neg (by omega), if_neg hf]
    · rw [if_neg hm]
      exact plain (by simp only; omega)
theorem atS_skip {l : List Sp} {f t s k : Int} (h : ¬ (f ≤ k ∧ k < t)) : atS ((f, t, s) :: l) k = atS l k := by simp only [atS]; rw [if_neg h]
theorem atS_pd {m : Int} : ∀ (l : List Sp) (a k : Int), PdS m a l → k < a → atS l k = 0
  | [], _, _, _, _ => rfl
  | (f, t, s) :: l, a, k, h, hk => by
    obtain ⟨h1, h2⟩ := h
    split at h2
    · rw [atS_skip (by omega)]
      exact atS_pd l t k h2.2.2 (by omega)
    · rw [atS_skip (by omega)]
      exact atS_pd l a k h2 hk
theorem foldS_ok {m : Int} : ∀ (l : List Sp) (out : List Sp) (a : Int), OkS m 0 0 out → (endS 0 0 out).1 ≤ a → PdS m a l →
    OkS m 0 0 (l.foldl pushS out) ∧ ∀ k, atS (l.foldl pushS out) k = if atS l k ≠ 0 then atS l k else atS out k
  | [], out, a, ho, _, _ => ⟨ho, fun k => by simp [atS]⟩
  | (f, t, s) :: l, out, a, ho, he, h => by
    obtain ⟨⟨h0, h1⟩, h2⟩ := h
    rw [List.foldl_cons]
    by_cases hft : f < t
    · rw [if_pos hft] at h2
      obtain ⟨h3, h4, h5⟩ := h2
      by_cases hs : s = 0
      · rw [pushS_skip (Or.inr hs)]
        obtain ⟨i1, i2⟩ := foldS_ok l out t ho (by omega) h5
        refine ⟨i1, fun k => ?_⟩
        rw [i2]
        by_cases hk : f ≤ k ∧ k < t
        · have e1 := atS_pd l t k h5 hk.2
          have e2 : atS ((f, t, s) :: l) k = 0 := by simp only [atS]; rw [if_pos hk, hs]
          rw [e1, e2]
        · rw [atS_skip hk]
      · obtain ⟨p1, p2, p3⟩ := pushS_ok ho (by omega) hft h4 (by omega) h1
        obtain ⟨i1, i2⟩ := foldS_ok l (pushS out (f, t, s)) t p1 (by omega) h5
        refine ⟨i1, fun k => ?_⟩
        rw [i2, p3]
        by_cases hk : f ≤ k ∧ k < t
        · have e1 := atS_pd l t k h5 hk.2
          have e2 : atS ((f, t, s) :: l) k = s := by simp only [atS]; rw [if_pos hk]
          rw [e1, e2, if_neg (by simp), if_pos hk, if_pos hs]
        · rw [atS_skip hk, if_neg hk]
    · rw [if_neg hft] at h2
      rw [pushS_skip (Or.inl (by simp only; omega))]
      obtain ⟨i1, i2⟩ := foldS_ok l out a ho he h2
      refine ⟨i1, fun k => ?_⟩
      rw [i2, atS_skip (by omega)]
/-- The fewest spans of pieces in order. -/
theorem fewS_ok {m : Int} {l : List Sp} (h : PdS m 0 l) : OkS m 0 0 (fewS l) ∧ ∀ k, atS (fewS l) k = atS l k := by
  obtain ⟨h1, h2⟩ := foldS_ok l [] 0 trivial (Int.le_refl _) h
  refine ⟨h1, fun k => ?_⟩
  unfold fewS
  rw [h2]
  split
  · rfl
  · rename_i hz; simp only [atS]; simpa using (Classical.not_not.1 hz).symm
theorem pushS_len (out : List Sp) (x : Sp) : (pushS out x).length ≤ out.length + 1 := by
  unfold pushS
  split
  · omega
  · split
    · simp
    · split
      · simp
      · simp
end Go.Proofs.YtmgjfmgkmlfjeaaDoor
namespace Go.Proofs.YtmgjfmgkmlfjeaaDoor
set_option linter.unusedSimpArgs false
set_option linter.unusedVariables false

theorem pdS_mono {m : Int} : ∀ {l : List Sp} {a b : Int}, a ≤ b → PdS m b l → PdS m a l
  | [], _, _, _, _ => trivial
  | (f, t, s) :: l, a, b, h, hp => by
    obtain ⟨h1, h2⟩ := hp
    refine ⟨h1, ?_⟩
    split
    · rename_i hc; rw [if_pos hc] at h2; exact ⟨by omega, h2.2.1, h2.2.2⟩
    · rename_i hc; rw [if_neg hc] at h2; exact pdS_mono h h2
def lefS (F : Int) (l : List Sp) : List Sp := l.map fun x => (x.1, min x.2.1 F, x.2.2)
def rigS (T : Int) (l : List Sp) : List Sp := l.map fun x => (max x.1 T, x.2.1, x.2.2)
def cutS (l : List Sp) (x : Sp) : List Sp := lefS x.1 l ++ x :: rigS x.2.1 l
def putS (l : List Sp) (x : Sp) : List Sp := if x.1 = x.2.1 then l else fewS (cutS l x)
theorem pd_left {m F : Int} {R : List Sp} (hR : PdS m F R) : ∀ (l : List Sp) (a st b : Int), OkS m a st l → b ≤ a → b ≤ F → PdS m b (lefS F l ++ R)
  | [], _, _, b, _, _, hb => pdS_mono hb hR
  | (f, t, s) :: l, a, st, b, h, hba, hbF => by
    obtain ⟨⟨h1, h2, h3, h4, h5, h6⟩, h7⟩ := h
    show PdS m b ((f, min t F, s) :: (lefS F l ++ R))
    refine ⟨by omega, ?_⟩
    split
    · exact ⟨by omega, by omega, pd_left hR l t s (min t F) h7 (by omega) (by omega)⟩
    · exact pd_left hR l t s b h7 (by omega) hbF
theorem pd_right {m T : Int} : ∀ (l : List Sp) (a st b : Int), OkS m a st l → b ≤ max a T → PdS m b (rigS T l)
  | [], _, _, _, _, _ => trivial
  | (f, t, s) :: l, a, st, b, h, hb => by
    obtain ⟨⟨h1, h2, h3, h4, h5, h6⟩, h7⟩ := h
    show PdS m b ((max f T, t, s) :: rigS T l)
    refine ⟨by omega, ?_⟩
    split
    · exact ⟨by omega, by omega, pd_right l t s t h7 (by omega)⟩
    · exact pd_right l t s b h7 (by omega)
theorem at_left_in {F k : Int} {R : List Sp} (hk : k < F) (hR : atS R k = 0) : ∀ l : List Sp, atS (lefS F l ++ R) k = atS l k
  | [] => by simpa [lefS, atS] using hR
  | (f, t, s) :: l => by
    show atS ((f, min t F, s) :: (lefS F l ++ R)) k = _
    simp only [atS]
    rw [at_left_in hk hR l]
    by_cases hc : f ≤ k ∧ k < t
    · rw [if_pos (by omega), if_pos hc]
    · rw [if_neg (by omega), if_neg hc]
theorem at_left_out {F k : Int} {R : List Sp} (hk : F ≤ k) : ∀ l : List Sp, atS (lefS F l ++ R) k = atS R k
  | [] => rfl
  | (f, t, s) :: l => by
    show atS ((f, min t F, s) :: (lefS F l ++ R)) k = _
    rw [atS_skip (by omega), at_left_out hk l]
theorem at_right_in {T k : Int} (hk : T ≤ k) : ∀ l : List Sp, atS (rigS T l) k = atS l k
  | [] => rfl
  | (f, t, s) :: l => by
    show atS ((max f T, t, s) :: rigS T l) k = _
    simp only [atS]
    rw [at_right_in hk l]
    by_cases hc : f ≤ k ∧ k < t
    · rw [if_pos (by omega), if_pos hc]
    · rw [if_neg (by omega), if_neg hc]
theorem at_right_out {T k : Int} (hk : k < T) : ∀ l : List Sp, atS (rigS T l) k = 0
  | [] => rfl
  | (f, t, s) :: l => by
    show atS ((max f T, t, s) :: rigS T l) k = _
    rw [atS_skip (by omega), at_right_out hk l]
theorem at_cut {l : List Sp} {F T S : Int} (h : F ≤ T) (k : Int) : atS (cutS l (F, T, S)) k = if F ≤ k ∧ k < T then S else atS l k := by
  unfold cutS
  simp only
  by_cases h1 : k < F
  · rw [if_neg (by omega), at_left_in h1 (by rw [atS_skip (by omega), at_right_out (by omega)])]
  · rw [at_left_out (by omega)]
    by_cases h2 : k < T
    · rw [if_pos (by omega)]; simp only [atS]; rw [if_pos (by omega)]
    · rw [if_neg (by omega), atS_skip (by omega), at_right_in (by omega)]
/-- A style put: as spans may be, and just these bytes have it. -/
theorem putS_ok {m : Int} {l : List Sp} {F T S : Int} (h : OkS m 0 0 l) (h0 : 0 ≤ F) (h1 : F ≤ T) (h2 : T ≤ m) (h3 : 0 ≤ S) (h4 : S ≤ 100) :
    OkS m 0 0 (putS l (F, T, S)) ∧ ∀ k, atS (putS l (F, T, S)) k = if F ≤ k ∧ k < T then S else atS l k := by
  unfold putS
  simp only
  by_cases he : F = T
  · rw [if_pos he]
    exact ⟨h, fun k => by rw [if_neg (by omega)]⟩
  · rw [if_neg he]
    have hp : PdS m 0 (cutS l (F, T, S)) := by
      refine pd_left ?_ l 0 0 0 h (Int.le_refl _) h0
      refine ⟨⟨h3, h4⟩, ?_⟩
      simp only
      rw [if_pos (by omega)]
      exact ⟨Int.le_refl _, h2, pd_right l 0 0 T h (by omega)⟩
    obtain ⟨i1, i2⟩ := fewS_ok hp
    exact ⟨i1, fun k => by rw [i2, at_cut h1]⟩
/-- Spans with the same styles are the same. -/
theorem sp_same {m m' : Int} {l l' : List Sp} (h : OkS m 0 0 l) (h' : OkS m' 0 0 l') (he : ∀ k, 0 ≤ k → atS l k = atS l' k) : l = l' := sp_ext l l' 0 0 h h' he
/-- How many there are at most. -/
def neS (l : List Sp) : Nat := (l.filter fun x => decide (x.1 < x.2.1)).length
theorem neS_cons (x : Sp) (l : List Sp) : neS (x :: l) = (if x.1 < x.2.1 then 1 else 0) + neS l := by
  unfold neS
  rw [List.filter_cons]
  by_cases h : x.1 < x.2.1
  · rw [if_pos (decide_eq_true h), if_pos h, List.length_cons]; omega
  · rw [if_neg (by simpa using h), if_neg h]; omega
theorem neS_append (a b : List Sp) : neS (a ++ b) = neS a + neS b := by simp [neS]
theorem foldS_len : ∀ (l out : List Sp), (l.foldl pushS out).length ≤ out.length + neS l
  | [], out => by simp [neS]
  | x :: l, out => by
    rw [List.foldl_cons, neS_cons]
    by_cases h : x.1 < x.2.1
    · have h1 := foldS_len l (pushS out x)
      have h2 := pushS_len out x
      rw [if_pos h]; omega
    · have h1 := foldS_len l out
      rw [pushS_skip (Or.inl (by omega)), if_neg h]; omega
theorem ne_left_none {m F : Int} : ∀ (l : List Sp) (a st : Int), OkS m a st l → F ≤ a → neS (lefS F l) = 0
  | [], _, _, _, _ => rfl
  | (f, t, s) :: l, a, st, h, hF => by
    obtain ⟨⟨h1, h2, h3, h4, h5, h6⟩, h7⟩ := h
    show neS ((f, min t F, s) :: lefS F l) = 0
    rw [neS_cons, if_neg (by simp only; omega), ne_left_none l t s h7 (by omega)]
theorem ne_le (l : List Sp) : neS l ≤ l.length := by unfold neS; exact List.length_filter_le _ _
theorem ne_both {m F T : Int} (hFT : F ≤ T) : ∀ (l : List Sp) (a st : Int), OkS m a st l → neS (lefS F l) + neS (rigS T l) ≤ l.length + 1
  | [], _, _, _ => by simp [lefS, rigS, neS]
  | (f, t, s) :: l, a, st, h => by
    obtain ⟨⟨h1, h2, h3, h4, h5, h6⟩, h7⟩ := h
    have e1 : lefS F ((f, t, s) :: l) = (f, min t F, s) :: lefS F l := rfl
    have e2 : rigS T ((f, t, s) :: l) = (max f T, t, s) :: rigS T l := rfl
    rw [e1, e2, neS_cons, neS_cons, List.length_cons]
    simp only
    by_cases hc : f < F ∧ T < t
    · have h8 := ne_left_none (F := F) l t s h7 (by omega)
      have h9 := ne_le (rigS T l)
      have h10 : (rigS T l).length = l.length := by simp [rigS]
      split <;> split <;> omega
    · have ih := ne_both hFT l t s h7
      by_cases h8 : f < min t F
      · rw [if_pos h8, if_neg (by omega)]; omega
      · rw [if_neg h8]; split <;> omega
theorem putS_len {m : Int} {l : List Sp} {F T S : Int} (h : OkS m 0 0 l) (h1 : F ≤ T) : (putS l (F, T, S)).length ≤ l.length + 2 := by
  unfold putS
  simp only
  split
  · omega
  · have h2 := foldS_len (cutS l (F, T, S)) []
    have h3 := ne_both h1 l 0 0 h
    unfold cutS at h2
    simp only at h2
    rw [neS_append, neS_cons] at h2
    simp only [List.length_nil] at h2
    unfold fewS cutS
    simp only
    split at h2 <;> omega
/-- Put behind all. -/
theorem putS_end {m : Int} {l : List Sp} {F T S : Int} (h : OkS m 0 0 l) (h0 : (endS 0 0 l).1 ≤ F) (hn : ¬ (F = (endS 0 0 l).1 ∧ S = (endS 0 0 l).2)) (h1 : F < T) (h2 : T ≤ m) (h3 : 1 ≤ S) (h4 : S ≤ 100) : putS l (F, T, S) = l ++ [(F, T, S)] := by
  have hge := endS_ge l 0 0 h
  obtain ⟨p1, p2⟩ := putS_ok (F := F) (T := T) (S := S) h (by omega) (by omega) h2 (by omega) h4
  have q1 : OkS m 0 0 (l ++ [(F, T, S)]) := (okS_append _ _ _ _).2 ⟨h, ⟨h3, h4, h0, h1, h2, hn⟩, trivial⟩
  refine sp_same p1 q1 fun k hk => ?_
  rw [p2, atS_append _ _ 0 0 k h]
  simp only [atS]
  by_cases hc : F ≤ k ∧ k < T
  · rw [if_pos hc, if_neg (by omega), if_pos hc]
  · rw [if_neg hc, if_neg hc]
    by_cases hz : atS l k = 0
    · rw [if_neg (by simp [hz]), hz]
    · have : k < (endS 0 0 l).1 := by
        by_cases hc : k < (endS 0 0 l).1
        · exact hc
        · exact absurd (atS_end l 0 0 k h (by omega) hk) hz
      rw [if_pos ⟨this, hz⟩]
/-- The parts that lie within. -/
def inS15 (a b : Int) (l : List Sp) : List Sp := (l.map fun x => (max x.1 a, min x.2.1 b, x.2.2)).filter fun x => decide (x.1 < x.2.1)
theorem inS15_cons (a b f t s : Int) (l : List Sp) : inS15 a b ((f, t, s) :: l) = if max f a < min t b then (max f a, min t b, s) :: inS15 a b l else inS15 a b l := by
  unfold inS15
  rw [List.map_cons, List.filter_cons]
  simp only [decide_eq_true_eq]
theorem inS15_ok {m a b : Int} (ha : 0 ≤ a) : ∀ (l : List Sp) (c st c' st' : Int), OkS m c st l → c' ≤ max c a → (c' = c ∧ st' = st ∨ c' < max c a ∨ (st' = 0)) → OkS m c' st' (inS15 a b l)
  | [], _, _, _, _, _, _, _ => trivial
  | (f, t, s) :: l, c, st, c', st', h, h1, h2 => by
    obtain ⟨⟨g1, g2, g3, g4, g5, g6⟩, g7⟩ := h
    rw [inS15_cons]
    split
    · rename_i hc
      refine ⟨⟨g1, g2, by omega, hc, by omega, ?_⟩, ?_⟩
      · rintro ⟨e1, e2⟩
        rcases h2 with ⟨rfl, rfl⟩ | h2 | h2
        · by_cases e : f = c'
          · exact g6 ⟨e, e2⟩
          · omega
        · omega
        · omega
      · by_cases hb : t ≤ b
        · refine inS15_ok ha l t s (min t b) s g7 (by omega) (Or.inl ⟨by omega, rfl⟩)
        · exact inS15_ok ha l t s (min t b) s g7 (by omega) (Or.inr (Or.inl (by omega)))
    · rename_i hc
      refine inS15_ok ha l t s c' st' g7 (by omega) ?_
      rcases h2 with ⟨rfl, rfl⟩ | h2 | h2
      · exact Or.inr (Or.inl (by omega))
      · exact Or.inr (Or.inl (by omega))
      · exact Or.inr (Or.inr h2)
theorem at_in15 {m a b : Int} : ∀ (l : List Sp) (c st k : Int), OkS m c st l → atS (inS15 a b l) k = if a ≤ k ∧ k < b then atS l k else 0
  | [], _, _, _, _ => by simp [inS15, atS]
  | (f, t, s) :: l, c, st, k, h => by
    obtain ⟨⟨g1, g2, g3, g4, g5, g6⟩, g7⟩ := h
    have ih := at_in15 (a := a) (b := b) l t s k g7
    rw [inS15_cons]
    by_cases hk : f ≤ k ∧ k < t
    · have e1 : atS ((f, t, s) :: l) k = s := by simp only [atS]; rw [if_pos hk]
      have e2 := atS_ahead l t s k g7 hk.2
      rw [e2] at ih
      have ih : atS (inS15 a b l) k = 0 := by rw [ih]; split <;> rfl
      rw [e1]
      split
      · simp only [atS]
        by_cases hab : a ≤ k ∧ k < b
        · rw [if_pos (by omega), if_pos hab]
        · rw [if_neg (by omega), if_neg hab, ih]
      · rw [ih, if_neg (by omega)]
    · rw [atS_skip hk, ← ih]
      split
      · rw [atS_skip (by omega)]
      · rfl
theorem in15_all {m a b : Int} : ∀ (l : List Sp) (c st : Int), OkS m c st l → a ≤ c → m ≤ b → inS15 a b l = l
  | [], _, _, _, _, _ => rfl
  | (f, t, s) :: l, c, st, h, ha, hb => by
    obtain ⟨⟨g1, g2, g3, g4, g5, g6⟩, g7⟩ := h
    rw [inS15_cons, if_pos (by omega), in15_all l t s g7 (by omega) hb, show max f a = f by omega, show min t b = t by omega]
end Go.Proofs.YtmgjfmgkmlfjeaaDoor
namespace Go.Proofs.YtmgjfmgkmlfjeaaDoor
set_option linter.unusedSimpArgs false
set_option linter.unusedVariables false

/-- How far the program's 'isLeast' has come. -/
def lstB (m : Int) : Int → Int → List Sp → Bool
  | _, _, [] => true
  | last, st, (f, t, s) :: l => decide (last ≤ f ∧ f < t ∧ t ≤ m ∧ s ≠ 0 ∧ ¬ (f = last ∧ s = st)) && lstB m t s l
/-- All styles are such. -/
def styB (l : List Sp) : Bool := l.all fun x => decide (1 ≤ x.2.2 ∧ x.2.2 ≤ 100)
theorem sty_lst {m : Int} : ∀ (l : List Sp) (a st : Int), (styB l && lstB m a st l) = okB m a st l
  | [], _, _ => rfl
  | (f, t, s) :: l, a, st => by
    have ih := sty_lst (m := m) l t s
    unfold styB at ih ⊢
    rw [List.all_cons, okB, lstB, ← ih]
    by_cases h1 : 1 ≤ s ∧ s ≤ 100
    · have e : decide (a ≤ f ∧ f < t ∧ t ≤ m ∧ s ≠ 0 ∧ ¬ (f = a ∧ s = st)) = decide (1 ≤ s ∧ s ≤ 100 ∧ a ≤ f ∧ f < t ∧ t ≤ m ∧ ¬ (f = a ∧ s = st)) := decide_eq_decide.2 (by omega)
      rw [e, decide_eq_true (p := 1 ≤ ((f, t, s) : Sp).2.2 ∧ ((f, t, s) : Sp).2.2 ≤ 100) h1, Bool.true_and]
      rw [← Bool.and_assoc, ← Bool.and_assoc]
      congr 1
      exact Bool.and_comm _ _
    · rw [decide_eq_false (p := 1 ≤ ((f, t, s) : Sp).2.2 ∧ ((f, t, s) : Sp).2.2 ≤ 100) h1, Bool.false_and, Bool.false_and, decide_eq_false (p := 1 ≤ s ∧ s ≤ 100 ∧ a ≤ f ∧ f < t ∧ t ≤ m ∧ ¬ (f = a ∧ s = st)) (by omega), Bool.false_and]
theorem isS_parts (n : Int) (l : List Sp) : isS n l = (decide (l.length ≤ 60) && (styB l && lstB (min n 20000) 0 0 l)) := by unfold isS; rw [sty_lst]
theorem pd_inl {m F : Int} {R : List Sp} (hR : PdS m F R) (hF : F ≤ m) : ∀ (l : List Sp) (a st b : Int), OkS m a st l → 0 ≤ a → b ≤ a → b ≤ F → PdS m b (inS15 0 F l ++ R)
  | [], _, _, b, _, _, _, hb => pdS_mono hb hR
  | (f, t, s) :: l, a, st, b, h, ha, hba, hbF => by
    obtain ⟨⟨h1, h2, h3, h4, h5, h6⟩, h7⟩ := h
    rw [inS15_cons]
    split
    · rename_i hc
      show PdS m b ((max f 0, min t F, s) :: (inS15 0 F l ++ R))
      refine ⟨by omega, ?_⟩
      rw [if_pos hc]
      exact ⟨by omega, by omega, pd_inl hR hF l t s (min t F) h7 (by omega) (by omega) (by omega)⟩
    · exact pd_inl hR hF l t s b h7 (by omega) (by omega) hbF
theorem pd_inr {m T n : Int} : ∀ (l : List Sp) (a st b : Int), OkS m a st l → b ≤ max a T → PdS m b (inS15 T n l)
  | [], _, _, _, _, _ => trivial
  | (f, t, s) :: l, a, st, b, h, hb => by
    obtain ⟨⟨h1, h2, h3, h4, h5, h6⟩, h7⟩ := h
    rw [inS15_cons]
    split
    · rename_i hc
      show PdS m b ((max f T, min t n, s) :: inS15 T n l)
      refine ⟨by omega, ?_⟩
      rw [if_pos hc]
      exact ⟨by omega, by omega, pd_inr l t s (min t n) h7 (by omega)⟩
    · exact pd_inr l t s b h7 (by omega)
/-- The program's put. -/
def prgS (m : Int) (l : List Sp) (x : Sp) : List Sp := fewS (inS15 0 x.1 l ++ x :: inS15 x.2.1 m l)
theorem prgS_ok {m : Int} {l : List Sp} {F T S : Int} (h : OkS m 0 0 l) (h0 : 0 ≤ F) (h1 : F ≤ T) (h2 : T ≤ m) (h3 : 0 ≤ S) (h4 : S ≤ 100) : prgS m l (F, T, S) = putS l (F, T, S) := by
  obtain ⟨p1, p2⟩ := putS_ok h h0 h1 h2 h3 h4
  have hp : PdS m 0 (inS15 0 F l ++ (F, T, S) :: inS15 T m l) := by
    refine pd_inl ?_ (by omega) l 0 0 0 h (Int.le_refl _) (Int.le_refl _) h0
    refine ⟨⟨h3, h4⟩, ?_⟩
    by_cases hc : F < T
    · rw [if_pos hc]
      exact ⟨Int.le_refl _, h2, pd_inr l 0 0 T h (by omega)⟩
    · rw [if_neg hc]
      exact pd_inr l 0 0 F h (by omega)
  obtain ⟨i1, i2⟩ := fewS_ok hp
  have hA : OkS m 0 0 (inS15 0 F l) := inS15_ok (Int.le_refl _) l 0 0 0 0 h (by omega) (Or.inl ⟨rfl, rfl⟩)
  refine sp_same i1 p1 fun k hk => ?_
  show atS (fewS (inS15 0 F l ++ (F, T, S) :: inS15 T m l)) k = _
  rw [i2, p2, atS_append _ _ 0 0 k hA]
  have hB := at_in15 (a := T) (b := m) l 0 0 k h
  have hC := at_in15 (a := 0) (b := F) l 0 0 k h
  have hend : atS (inS15 0 F l) k ≠ 0 → k < (endS 0 0 (inS15 0 F l)).1 := fun hz => by
    by_cases hc : k < (endS 0 0 (inS15 0 F l)).1
    · exact hc
    · exact absurd (atS_end _ 0 0 k hA (by omega) hk) hz
  by_cases k1 : k < F
  · rw [if_pos (by omega)] at hC
    rw [if_neg (by omega)] at hB
    rw [if_neg (c := F ≤ k ∧ k < T) (by omega), atS_skip (by omega), hB]
    by_cases hz : atS (inS15 0 F l) k = 0
    · rw [if_neg (by simp [hz]), ← hC, hz]
    · rw [if_pos ⟨hend hz, hz⟩, hC]
  · rw [if_neg (by omega)] at hC
    rw [if_neg (by simp [hC])]
    by_cases k2 : k < T
    · rw [if_pos (by omega)]; simp only [atS]; rw [if_pos (by omega)]
    · rw [if_neg (by omega), atS_skip (by omega), hB]
      by_cases k3 : k < m
      · rw [if_pos (by omega)]
      · rw [if_neg (by omega), atS_beyond l 0 0 k h (by omega)]
theorem inS15_append (a b : Int) (l r : List Sp) : inS15 a b (l ++ r) = inS15 a b l ++ inS15 a b r := by simp [inS15]
theorem inS15_take {a b : Int} {l : List Sp} {k : Nat} {f t s : Int} (hr : l[k]? = some (f, t, s)) : inS15 a b (l.take (k + 1)) = inS15 a b (l.take k) ++ (if max f a < min t b then [(max f a, min t b, s)] else []) := by
  have e : l.take (k + 1) = l.take k ++ [(f, t, s)] := by rw [List.take_add_one, hr]; rfl
  rw [e, inS15_append, inS15_cons]
  rfl
theorem inS15_len (a b : Int) (l : List Sp) : (inS15 a b l).length ≤ l.length := by
  unfold inS15
  exact Nat.le_trans (List.length_filter_le _ _) (by simp)
theorem fewS_take {l : List Sp} {k : Nat} {x : Sp} (hr : l[k]? = some x) : fewS (l.take (k + 1)) = pushS (fewS (l.take k)) x := by
  have e : l.take (k + 1) = l.take k ++ [x] := by rw [List.take_add_one, hr]; rfl
  unfold fewS
  rw [e, List.foldl_append]
  rfl
theorem fewS_len (l : List Sp) : (fewS l).length ≤ l.length := by
  have h1 := foldS_len l []
  have h2 := ne_le l
  unfold fewS
  simp only [List.length_nil] at h1
  omega
theorem pushS_join {A : List Sp} {f t s f' t' s' : Int} (h1 : f < t) (h2 : s ≠ 0) (e1 : f = t') (e2 : s = s') : pushS (A ++ [(f', t', s')]) (f, t, s) = A ++ [(f', t, s')] := by
  unfold pushS
  rw [if_neg (by simp only; omega), List.getLast?_concat]
  simp only
  rw [if_pos ⟨e1.symm, e2.symm⟩, List.dropLast_concat]
theorem pushS_new {A : List Sp} {f t s f' t' s' : Int} (h1 : f < t) (h2 : s ≠ 0) (e : ¬ (f = t' ∧ s = s')) : pushS (A ++ [(f', t', s')]) (f, t, s) = A ++ [(f', t', s')] ++ [(f, t, s)] := by
  unfold pushS
  rw [if_neg (by simp only; omega), List.getLast?_concat]
  simp only
  rw [if_neg (by omega)]
theorem pushS_nil {f t s : Int} (h1 : f < t) (h2 : s ≠ 0) : pushS [] (f, t, s) = [(f, t, s)] := by
  unfold pushS
  rw [if_neg (by simp only; omega)]
  rfl
/-- What may be put. -/
def toP (x : Sp) : Bool := decide ((x.2.2 = 0 ∨ 1 ≤ x.2.2 ∧ x.2.2 ≤ 100) ∧ 0 ≤ x.1 ∧ x.1 ≤ x.2.1 ∧ x.2.1 ≤ 20000)
theorem toP_spec {F T S : Int} : toP (F, T, S) = true ↔ 0 ≤ S ∧ S ≤ 100 ∧ 0 ≤ F ∧ F ≤ T ∧ T ≤ 20000 := by
  unfold toP; rw [decide_eq_true_eq]; simp only; omega
/-- Put's errors, and its spans. -/
def putE (l : List Sp) (x : Sp) : Int := if isS 20000 l = true ∧ toP x = true then (if (putS l x).length ≤ 60 then 0 else 70) else 12
def putL (l : List Sp) (x : Sp) : List Sp := if putE l x = 0 then putS l x else []
theorem putE_no {l : List Sp} {x : Sp} (h : ¬ (isS 20000 l = true ∧ toP x = true)) : putE l x = 12 ∧ putL l x = [] := by
  have e : putE l x = 12 := if_neg h
  exact ⟨e, by unfold putL; rw [e]; rfl⟩
theorem putE_many {l : List Sp} {x : Sp} (h : isS 20000 l = true ∧ toP x = true) (hl : ¬ (putS l x).length ≤ 60) : putE l x = 70 ∧ putL l x = [] := by
  have e : putE l x = 70 := by unfold putE; rw [if_pos h, if_neg hl]
  exact ⟨e, by unfold putL; rw [e]; rfl⟩
theorem putE_ok {l : List Sp} {x : Sp} (h : isS 20000 l = true ∧ toP x = true) (hl : (putS l x).length ≤ 60) : putE l x = 0 ∧ putL l x = putS l x := by
  have e : putE l x = 0 := by unfold putE; rw [if_pos h, if_pos hl]
  exact ⟨e, by unfold putL; rw [if_pos e]⟩
theorem prg_put {l : List Sp} {x : Sp} (h : isS 20000 l = true ∧ toP x = true) : prgS 20000 l x = putS l x := by
  obtain ⟨F, T, S⟩ := x
  obtain ⟨h1, h2, h3, h4, h5⟩ := toP_spec.1 h.2
  exact prgS_ok (isS_spec.1 h.1).2 h3 h4 h5 h1 h2
end Go.Proofs.YtmgjfmgkmlfjeaaDoor
