/- What is built of changes: plain mathematics. -/
import Derived.Test.YtalolaajcmndeaaDoorDelIs
namespace Go.Proofs.YtalolaajcmndeaaDoor
set_option linter.unusedSimpArgs false
set_option linter.unusedVariables false

/-- A text, if there is any. -/
def tx (T : List UInt8) : List El := if T = [] then [] else [(0, 0, T)]
/-- The elements of changes: the text since the last copy, where it ends. -/
def elG (base : Int) : List UInt8 → Int → List El → List El
  | txt, en, [] => tx txt ++ if en < base then [(en, base, [])] else []
  | txt, en, (f, t, T) :: l => if f = t ∧ T = [] then elG base txt en l else if en < f then tx txt ++ (en, f, []) :: elG base T t l else elG base (txt ++ T) t l
theorem cel_tx (T : List UInt8) : cel (tx T) = ownT T := by
  unfold tx
  split
  · rename_i h; subst h; rfl
  · simp [cel, ce1, rng]
theorem own_append (a b : List UInt8) : ownT (a ++ b) = ownT a ++ ownT b := by simp [ownT]
/-- Changes lie behind f. -/
theorem bce_from {base : Int} : ∀ (l : List El) (a f : Int), a ≤ f → Chs base f l → bce base a l = rng a f ++ bce base f l
  | [], a, f, h, hc => by simp only [bce]; exact rng_split h hc
  | (x, y, T) :: l, a, f, h, hc => by
    simp only [bce]
    rw [rng_split (f := a) (m := f) (t := x) h hc.1]
    simp only [List.append_assoc]
theorem chs_mono {base : Int} : ∀ (l : List El) (a f : Int), a ≤ f → Chs base f l → Chs base a l
  | [], a, f, h, hc => by simp only [Chs] at *; omega
  | (x, y, T) :: l, a, f, h, hc => ⟨by have := hc.1; omega, hc.2.1, hc.2.2.1, hc.2.2.2⟩
theorem cel_elG {base : Int} : ∀ (l : List El) (txt : List UInt8) (en : Int), Chs base en l → cel (elG base txt en l) = ownT txt ++ bce base en l
  | [], txt, en, hc => by
    simp only [elG, bce, cel_append, cel_tx]
    congr 1
    by_cases h : en < base
    · rw [if_pos h]; simp [cel, ce1, ownT]
    · rw [if_neg h, rng_none (by omega)]; rfl
  | (f, t, T) :: l, txt, en, hc => by
    obtain ⟨h1, h2, h3, h4⟩ := hc
    simp only [elG, bce]
    by_cases h : f = t ∧ T = []
    · obtain ⟨rfl, rfl⟩ := h
      rw [if_pos ⟨rfl, rfl⟩, cel_elG l txt en (chs_mono _ _ _ h1 h4), bce_from l en f h1 h4]
      simp [ownT]
    · rw [if_neg h]
      by_cases h5 : en < f
      · rw [if_pos h5, cel_append, cel_tx, cel_cons, cel_elG l T t h4]
        simp [ce1, ownT]
      · rw [if_neg h5, cel_elG l (txt ++ T) t h4, own_append, rng_none (by omega)]
        simp
theorem nm_tx {base : Int} {last : Int} {k : Nat} {txt : List UInt8} {es : List El} (hk : k ≠ 1) (h : Nm base last (if txt = [] then k else 1) es) : Nm base last k (tx txt ++ es) := by
  unfold tx
  by_cases e : txt = []
  · rw [if_pos e]; rw [if_pos e] at h; exact h
  · rw [if_neg e]; rw [if_neg e] at h
    show Nm base last k ((0, 0, txt) :: es)
    rw [Nm, if_neg e]
    exact ⟨rfl, rfl, hk, h⟩
theorem nm_elG {base : Int} : ∀ (l : List El) (txt : List UInt8) (en last : Int) (k : Nat), Chs base en l → last ≤ en → k ≠ 1 → (k = 2 → txt = [] → last < en) → Nm base last k (elG base txt en l)
  | [], txt, en, last, k, hc, h1, h2, h3 => by
    simp only [elG]
    refine nm_tx h2 ?_
    by_cases h : en < base
    · rw [if_pos h, Nm, if_pos rfl]
      refine ⟨h1, fun hk => ?_, h, Int.le_refl _, trivial⟩
      by_cases e : txt = []
      · rw [if_pos e] at hk; exact h3 hk e
      · rw [if_neg e] at hk; omega
    · rw [if_neg h]; trivial
  | (f, t, T) :: l, txt, en, last, k, hc, h1, h2, h3 => by
    obtain ⟨c1, c2, c3, c4⟩ := hc
    simp only [elG]
    by_cases h : f = t ∧ T = []
    · rw [if_pos h]
      obtain ⟨rfl, rfl⟩ := h
      exact nm_elG l txt en last k (chs_mono _ _ _ c1 c4) h1 h2 h3
    · rw [if_neg h]
      by_cases h5 : en < f
      · rw [if_pos h5]
        refine nm_tx h2 ?_
        rw [Nm, if_pos rfl]
        refine ⟨h1, fun hk => ?_, h5, by omega, nm_elG l T t f 2 c4 c2 (by omega) fun _ hT => ?_⟩
        · by_cases e : txt = []
          · rw [if_pos e] at hk; exact h3 hk e
          · rw [if_neg e] at hk; omega
        · subst hT
          have : f ≠ t := fun e => h ⟨e, rfl⟩
          omega
      · rw [if_neg h5]
        refine nm_elG l (txt ++ T) t last k c4 (by omega) h2 fun hk hT => ?_
        have e1 : txt = [] := (List.append_eq_nil_iff.1 hT).1
        have := h3 hk e1
        omega
/-- THE LEAST ELEMENTS. -/
theorem elG_tld {base : Int} {l : List El} (hc : Chs base 0 l) : elG base [] 0 l = tld (bce base 0 l) := by
  have h := nm_elG l [] 0 0 0 hc (Int.le_refl _) (by omega) (fun h => by omega)
  have e := tld_cel _ 0 0 (Int.le_refl _) h
  rw [cel_elG l [] 0 hc] at e
  simpa [ownT] using e.symm
/-- Valid texts together are valid. -/
theorem vld_two {a b : List UInt8} (ha : vld a = true) (hb : vld b = true) : vld (a ++ b) = true := by
  rw [← flat_pts' ha, vld_flat_append (good_pts' a)]
  exact hb
theorem vld_elG {base : Int} : ∀ (l : List El) (txt : List UInt8) (en : Int), vld txt = true → (∀ e ∈ l, vld e.2.2 = true) → ∀ e ∈ elG base txt en l, vld e.2.2 = true
  | [], txt, en, hv, hl, e, he => by
    simp only [elG, List.mem_append] at he
    rcases he with he | he
    · unfold tx at he
      split at he
      · cases he
      · simp at he; subst he; exact hv
    · split at he
      · simp at he; subst he; exact vld_nil
      · cases he
  | (f, t, T) :: l, txt, en, hv, hl, e, he => by
    have hT : vld T = true := hl (f, t, T) (by simp)
    have hl' : ∀ e ∈ l, vld e.2.2 = true := fun e h => hl e (by simp [h])
    simp only [elG] at he
    split at he
    · exact vld_elG l txt en hv hl' e he
    · split at he
      · simp only [List.mem_append, List.mem_cons] at he
        rcases he with he | rfl | he
        · unfold tx at he
          split at he
          · cases he
          · simp at he; subst he; exact hv
        · exact vld_nil
        · exact vld_elG l T t hT hl' e he
      · exact vld_elG l (txt ++ T) t (vld_two hv hT) hl' e he
/-- How many bytes changes make it. -/
def sz8 (base : Int) (l : List El) : Int := base + (l.map fun e => (e.2.2.length : Int) - (e.2.1 - e.1)).sum
theorem bce_size {base : Int} : ∀ (l : List El) (a : Int), Chs base a l → ((bce base a l).length : Int) = sz8 (base - a) l
  | [], a, hc => by simp only [bce, rng_len, sz8, List.map_nil, List.sum_nil, Chs] at *; omega
  | (f, t, T) :: l, a, hc => by
    obtain ⟨c1, c2, c3, c4⟩ := hc
    have ih := bce_size l t c4
    simp only [bce, List.length_append, rng_len, own_len, sz8, List.map_cons, List.sum_cons] at ih ⊢
    omega
theorem elG_size {base : Int} {l : List El} (hc : Chs base 0 l) : szE (elG base [] 0 l) = sz8 base l := by
  have h := nm_elG l [] 0 0 0 hc (Int.le_refl _) (by omega) (fun h => by omega)
  have e := cel_size _ 0 0 h
  rw [cel_elG l [] 0 hc] at e
  have e2 := bce_size l 0 hc
  simp only [ownT, List.map_nil, List.nil_append] at e
  rw [← e, e2]
  congr 1
  omega
/-- What Is asks, but for the size. -/
def stE (base last : Int) (k : Nat) (e : El) : Bool :=
  if e.2.2 = [] then decide (last ≤ e.1 ∧ (k = 2 → last < e.1) ∧ e.1 < e.2.1 ∧ e.2.1 ≤ base) else decide (e.1 = 0 ∧ e.2.1 = 0 ∧ k ≠ 1) && vld e.2.2
def stR (base : Int) : Int → Nat → List El → Bool
  | _, _, [] => true
  | last, k, e :: es => stE base last k e && (if e.2.2 = [] then stR base e.2.1 2 es else stR base last 1 es)
theorem stR_spec {base : Int} : ∀ (es : List El) (last : Int) (k : Nat), (stR base last k es = true ↔ (Nm base last k es ∧ ∀ e ∈ es, vld e.2.2 = true))
  | [], last, k => by simp [stR, Nm]
  | (f, t, T) :: es, last, k => by
    by_cases hT : T = []
    · subst hT
      have hv : vld [] = true := by decide
      simp only [stR, stE, Nm, if_true, Bool.and_eq_true, decide_eq_true_eq, stR_spec es t 2, List.mem_cons, forall_eq_or_imp]
      constructor
      · rintro ⟨⟨h1, h2, h3, h4⟩, h5, h6⟩; exact ⟨⟨h1, h2, h3, h4, h5⟩, hv, h6⟩
      · rintro ⟨⟨h1, h2, h3, h4, h5⟩, _, h6⟩; exact ⟨⟨h1, h2, h3, h4⟩, h5, h6⟩
    · simp only [stR, stE, Nm, if_neg hT, Bool.and_eq_true, decide_eq_true_eq, stR_spec es last 1, List.mem_cons, forall_eq_or_imp]
      constructor
      · rintro ⟨⟨⟨h1, h2, h3⟩, h4⟩, h5, h6⟩; exact ⟨⟨h1, h2, h3, h5⟩, h4, h6⟩
      · rintro ⟨⟨h1, h2, h3, h5⟩, h4, h6⟩; exact ⟨⟨⟨h1, h2, h3⟩, h4⟩, h5, h6⟩
theorem isB_st (base : Int) (es : List El) : isB base es = (decide (0 ≤ base ∧ base ≤ 20000 ∧ es.length ≤ 60) && (stR base 0 0 es && decide (szE es ≤ 20000))) := by
  rw [Bool.eq_iff_iff, isB_spec, Bool.and_eq_true, Bool.and_eq_true, stR_spec, decide_eq_true_eq, decide_eq_true_eq]
  constructor
  · rintro ⟨h1, h2, h3, h4⟩; exact ⟨h1, ⟨h2, h3⟩, h4⟩
  · rintro ⟨h1, ⟨h2, h3⟩, h4⟩; exact ⟨h1, h2, h3, h4⟩
/-- The copies', the inserts' bytes. -/
def cpS (es : List El) : Int := (es.map fun e => e.2.1 - e.1).sum
def inS (es : List El) : Nat := (es.map fun e => e.2.2.length).sum
theorem cpS_append (a b : List El) : cpS (a ++ b) = cpS a + cpS b := by simp [cpS]
theorem inS_append (a b : List El) : inS (a ++ b) = inS a + inS b := by simp [inS]
theorem szE_two (es : List El) : szE es = cpS es + (inS es : Int) := by
  induction es with
  | nil => rfl
  | cons e es ih => simp only [szE, cpS, inS, List.map_cons, List.sum_cons] at *; omega
/-- Elements within some bounds. -/
def Bd (es : List El) : Prop := ∀ e ∈ es, 0 ≤ e.1 ∧ e.1 ≤ e.2.1 ∧ e.2.1 ≤ 20000
theorem nm_bd {base : Int} (hb : base ≤ 20000) : ∀ (es : List El) (last : Int) (k : Nat), 0 ≤ last → Nm base last k es → Bd es
  | [], _, _, _, _ => fun e h => by cases h
  | (f, t, T) :: es, last, k, h0, h => by
    by_cases hT : T = []
    · rw [Nm, if_pos hT] at h
      have ih := nm_bd hb es t 2 (by omega) h.2.2.2.2
      intro e he
      rcases List.mem_cons.1 he with rfl | he
      · simp only; omega
      · exact ih e he
    · rw [Nm, if_neg hT] at h
      have ih := nm_bd hb es last 1 h0 h.2.2.2
      intro e he
      rcases List.mem_cons.1 he with rfl | he
      · simp only; omega
      · exact ih e he
theorem cpS_bd : ∀ (es : List El), Bd es → 0 ≤ cpS es ∧ cpS es ≤ 20000 * es.length
  | [], _ => by simp [cpS]
  | e :: es, h => by
    have ih := cpS_bd es (fun x hx => h x (by simp [hx]))
    have := h e (by simp)
    simp only [cpS, List.map_cons, List.sum_cons, List.length_cons] at *
    omega
theorem Bd.take {es : List El} (h : Bd es) (k : Nat) : Bd (es.take k) := fun e he => h e (List.mem_of_mem_take he)
theorem nm_cp {base : Int} : ∀ (es : List El) (last : Int) (k : Nat), Nm base last k es → cpS es ≤ max 0 (base - last)
  | [], last, k, h => by simp [cpS]; omega
  | (f, t, T) :: es, last, k, h => by
    by_cases hT : T = []
    · rw [Nm, if_pos hT] at h
      have ih := nm_cp es t 2 h.2.2.2.2
      simp only [cpS, List.map_cons, List.sum_cons] at *
      omega
    · rw [Nm, if_neg hT] at h
      have ih := nm_cp es last 1 h.2.2.2
      simp only [cpS, List.map_cons, List.sum_cons] at *
      omega
end Go.Proofs.YtalolaajcmndeaaDoor
