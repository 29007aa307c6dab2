/- Deltas: elements and the bytes that they make; plain mathematics (layers 11 to 14). Which elements are a delta: plain mathematics. What is built of changes: plain mathematics. -/
import Derived.Below
import Derived.Test.YtafhogfbjklboaaDoorRuns
namespace Go.Proofs.YtafhogfbjklboaaDoor
set_option linter.unusedSimpArgs false
set_option linter.unusedVariables false

/-- An element, a change: from, to, a text. -/
abbrev El := Int × Int × List UInt8
/-- A byte that is made: one of the base (0 or above), or one of one's ownT (-1). -/
abbrev Ce := Int × UInt8
/-- The places from f to t. -/
def rng (f t : Int) : List Ce := (List.range (t - f).toNat).map fun i => (f + (i : Nat), 0)
def ownT (T : List UInt8) : List Ce := T.map fun b => (-1, b)
def ce1 (e : El) : List Ce := ownT e.2.2 ++ rng e.1 e.2.1
def cel (es : List El) : List Ce := es.flatMap ce1
theorem cel_nil : cel [] = [] := rfl
theorem cel_cons (e : El) (es : List El) : cel (e :: es) = ce1 e ++ cel es := by simp [cel]
theorem cel_append (a b : List El) : cel (a ++ b) = cel a ++ cel b := by simp [cel]
theorem rng_len (f t : Int) : (rng f t).length = (t - f).toNat := by simp [rng]
theorem own_len (T : List UInt8) : (ownT T).length = T.length := by simp [ownT]
theorem rng_none {f t : Int} (h : t ≤ f) : rng f t = [] := by simp [rng, show (t - f).toNat = 0 by omega]
theorem rng_cons {f t : Int} (h : f < t) : rng f t = (f, 0) :: rng (f + 1) t := by
  unfold rng
  obtain ⟨n, hn⟩ : ∃ n, (t - f).toNat = n + 1 := ⟨(t - f).toNat - 1, by omega⟩
  rw [hn, show (t - (f + 1)).toNat = n by omega, List.range_succ_eq_map]
  simp only [List.map_cons, List.map_map]
  congr 1
  · simp
  · refine List.map_congr_left fun i _ => ?_
    simp only [Function.comp, Nat.succ_eq_add_one]
    congr 1
    omega
theorem rng_snoc {f t : Int} (h : f ≤ t) : rng f (t + 1) = rng f t ++ [(t, 0)] := by
  unfold rng
  rw [show (t + 1 - f).toNat = (t - f).toNat + 1 by omega, List.range_succ, List.map_append]
  simp
  omega
theorem rng_split {f m t : Int} (h1 : f ≤ m) (h2 : m ≤ t) : rng f t = rng f m ++ rng m t := by
  obtain ⟨n, rfl⟩ : ∃ n : Nat, t = m + n := ⟨(t - m).toNat, by omega⟩
  clear h2
  induction n with
  | zero => simp [rng_none]
  | succ n ih =>
    rw [show m + ((n + 1 : Nat) : Int) = m + (n : Int) + 1 by omega, rng_snoc (by omega), rng_snoc (by omega), ih, List.append_assoc]
/-- Elements as they may stand behind last (k: 0 the start, 1 behind a text, 2 behind what is kept). -/
def Nm (base : Int) : Int → Nat → List El → Prop
  | _, _, [] => True
  | last, k, (f, t, T) :: es => if T = [] then last ≤ f ∧ (k = 2 → last < f) ∧ f < t ∧ t ≤ base ∧ Nm base t 2 es else f = 0 ∧ t = 0 ∧ k ≠ 1 ∧ Nm base last 1 es
/-- One byte more, ahead of elements. -/
def puc (c : Ce) (es : List El) : List El :=
  if c.1 < 0 then
    match es with
    | (f, t, T) :: r => if T = [] then (0, 0, [c.2]) :: (f, t, T) :: r else (0, 0, c.2 :: T) :: r
    | [] => [(0, 0, [c.2])]
  else
    match es with
    | (f, t, T) :: r => if T = [] ∧ f = c.1 + 1 then (c.1, t, []) :: r else (c.1, c.1 + 1, []) :: (f, t, T) :: r
    | [] => [(c.1, c.1 + 1, [])]
/-- The least elements of bytes. -/
def tld (l : List Ce) : List El := l.foldr puc []
theorem tld_cons (c : Ce) (l : List Ce) : tld (c :: l) = puc c (tld l) := rfl
/-- The head isn't a text; isn't kept from p on. -/
def NoTx (es : List El) : Prop := ∀ e r, es = e :: r → e.2.2 = []
def NoAt (p : Int) (es : List El) : Prop := ∀ e r, es = e :: r → e.2.2 = [] → e.1 ≠ p
theorem tld_own : ∀ (T : List UInt8) (l : List Ce), T ≠ [] → NoTx (tld l) → tld (ownT T ++ l) = (0, 0, T) :: tld l
  | [], _, h, _ => absurd rfl h
  | [b], l, _, h => by
    show puc (-1, b) (tld l) = _
    unfold puc
    rw [if_pos (show (-1 : Int) < 0 by omega)]
    cases e : tld l with
    | nil => rfl
    | cons x r => obtain ⟨f, t, T⟩ := x; have := h _ _ e; simp only at this; subst this; simp
  | b :: c :: T, l, _, h => by
    have ih := tld_own (c :: T) l (by simp) h
    show puc (-1, b) (tld (ownT (c :: T) ++ l)) = _
    rw [ih]
    simp [puc]
theorem tld_rng : ∀ (n : Nat) (f t : Int) (l : List Ce), (t - f).toNat = n → 0 ≤ f → f < t → NoAt t (tld l) → tld (rng f t ++ l) = (f, t, []) :: tld l
  | 0, f, t, _, hn, _, h, _ => by omega
  | n + 1, f, t, l, hn, h0, h, ha => by
    rw [rng_cons h]
    show puc (f, 0) (tld (rng (f + 1) t ++ l)) = _
    by_cases e : f + 1 = t
    · subst e
      rw [rng_none (Int.le_refl _), List.nil_append]
      unfold puc
      rw [if_neg (by simp only; omega)]
      cases e : tld l with
      | nil => rfl
      | cons x r =>
        obtain ⟨f', t', T⟩ := x
        have := ha _ _ e
        simp only at this ⊢
        rw [if_neg (fun h => this h.1 h.2)]
    · rw [tld_rng n (f + 1) t l (by omega) (by omega) (by omega) ha]
      unfold puc
      rw [if_neg (by simp only; omega)]
      simp
/-- Elements that stand as they may are told again by their bytes. -/
theorem tld_cel {base : Int} : ∀ (es : List El) (last : Int) (k : Nat), 0 ≤ last → Nm base last k es → tld (cel es) = es
  | [], _, _, _, _ => rfl
  | (f, t, T) :: es, last, k, h0, h => by
    rw [cel_cons]
    by_cases hT : T = []
    · subst hT
      rw [Nm, if_pos rfl] at h
      obtain ⟨h1, h2, h3, h4, h5⟩ := h
      have ih := tld_cel es t 2 (by omega) h5
      show tld (rng f t ++ cel es) = _
      rw [tld_rng _ f t (cel es) rfl (by omega) h3 (by
        rw [ih]
        rintro ⟨f', t', T'⟩ r e hT'
        simp only at hT'
        subst e hT'
        rw [Nm, if_pos rfl] at h5
        have := h5.2.1 rfl
        simp only
        omega), ih]
    · rw [Nm, if_neg hT] at h
      obtain ⟨h1, h2, h3, h4⟩ := h
      subst h1 h2
      have ih := tld_cel es last 1 h0 h4
      show tld (ownT T ++ rng 0 0 ++ cel es) = _
      rw [rng_none (Int.le_refl _), List.append_nil, tld_own T (cel es) hT (by
        rw [ih]
        rintro ⟨f', t', T'⟩ r e
        subst e
        by_cases hT' : T' = []
        · exact hT'
        · rw [Nm, if_neg hT'] at h4
          exact absurd rfl h4.2.2.1), ih]
/-- What bytes make of a text. -/
def apl (l : List Ce) (s : List UInt8) : List UInt8 := l.map fun c => if c.1 < 0 then c.2 else s.getD c.1.toNat 0
theorem apl_append (a b : List Ce) (s : List UInt8) : apl (a ++ b) s = apl a s ++ apl b s := by simp [apl]
theorem apl_own (T s : List UInt8) : apl (ownT T) s = T := by
  simp [apl, ownT, Function.comp_def]
theorem apl_rng {f t : Int} {s : List UInt8} (h0 : 0 ≤ f) (h1 : f ≤ t) (h2 : t ≤ s.length) : apl (rng f t) s = (s.drop f.toNat).take (t - f).toNat := by
  apply List.ext_getElem
  · simp [apl, rng_len]; omega
  intro i a b
  have hi : i < (t - f).toNat := by simpa [apl, rng_len] using a
  have e : (f + (i : Int)).toNat = f.toNat + i := by omega
  simp [apl, rng, e, show ¬ f + (i : Int) < 0 by omega, List.getElem?_eq_getElem (show f.toNat + i < s.length by omega)]
theorem apl_cel {base : Int} {s : List UInt8} (hb : base ≤ s.length) : ∀ (es : List El) (last : Int) (k : Nat), 0 ≤ last → Nm base last k es → apl (cel es) s = es.flatMap fun e => e.2.2 ++ (s.drop e.1.toNat).take (e.2.1 - e.1).toNat
  | [], _, _, _, _ => rfl
  | (f, t, T) :: es, last, k, h0, h => by
    rw [cel_cons, apl_append, List.flatMap_cons]
    by_cases hT : T = []
    · subst hT
      rw [Nm, if_pos rfl] at h
      obtain ⟨h1, h2, h3, h4, h5⟩ := h
      rw [apl_cel hb es t 2 (by omega) h5]
      congr 1
      show apl (rng f t) s = _
      rw [apl_rng (by omega) (by omega) (by omega)]
      simp
    · rw [Nm, if_neg hT] at h
      obtain ⟨h1, h2, h3, h4⟩ := h
      subst h1 h2
      rw [apl_cel hb es last 1 h0 h4]
      congr 1
      show apl (ownT T ++ rng 0 0) s = _
      rw [rng_none (Int.le_refl _), List.append_nil, apl_own]
      simp
/-- The bytes of changes. -/
def bce (base : Int) : Int → List El → List Ce
  | at', [] => rng at' base
  | at', (f, t, T) :: l => rng at' f ++ ownT T ++ bce base t l
/-- The changes lie in the base, one behind the other. -/
def Chs (base : Int) : Int → List El → Prop
  | at', [] => at' ≤ base
  | at', (f, t, T) :: l => at' ≤ f ∧ f ≤ t ∧ t ≤ base ∧ Chs base t l
/-- How long elements, changes make it. -/
def szE (es : List El) : Int := (es.map fun e => (e.2.2.length : Int) + (e.2.1 - e.1)).sum
theorem cel_size {base : Int} : ∀ (es : List El) (last : Int) (k : Nat), Nm base last k es → ((cel es).length : Int) = szE es
  | [], _, _, _ => rfl
  | (f, t, T) :: es, last, k, h => by
    rw [cel_cons, List.length_append]
    have e : ((ce1 (f, t, T)).length : Int) = (T.length : Int) + ((t - f).toNat : Int) := by simp [ce1, own_len, rng_len]
    by_cases hT : T = []
    · subst hT
      rw [Nm, if_pos rfl] at h
      have ih := cel_size es t 2 h.2.2.2.2
      simp only [szE, List.map_cons, List.sum_cons] at ih ⊢
      simp only [List.length_nil] at e ⊢
      omega
    · rw [Nm, if_neg hT] at h
      obtain ⟨h1, h2, h3, h4⟩ := h
      have ih := cel_size es last 1 h4
      simp only [szE, List.map_cons, List.sum_cons] at ih ⊢
      omega
end Go.Proofs.YtafhogfbjklboaaDoor
namespace Go.Proofs.YtafhogfbjklboaaDoor
set_option linter.unusedSimpArgs false
set_option linter.unusedVariables false

/-- One element behind last (k: 0 the start, 1 behind a text, 2 behind what is kept), size bytes being made. -/
def isE (base last : Int) (k : Nat) (size : Int) (e : El) : Bool :=
  if e.2.2 = [] then decide (last ≤ e.1 ∧ (k = 2 → last < e.1) ∧ e.1 < e.2.1 ∧ e.2.1 ≤ base ∧ e.2.1 - e.1 ≤ 20000 - size)
  else decide (e.1 = 0 ∧ e.2.1 = 0 ∧ k ≠ 1 ∧ (e.2.2.length : Int) ≤ 20000 - size) && vld e.2.2
def isR (base : Int) : Int → Nat → Int → List El → Bool
  | _, _, _, [] => true
  | last, k, size, e :: es => isE base last k size e && (if e.2.2 = [] then isR base e.2.1 2 (size + (e.2.1 - e.1)) es else isR base last 1 (size + e.2.2.length) es)
/-- Is: P11.1. -/
def isB (base : Int) (es : List El) : Bool := decide (0 ≤ base ∧ base ≤ 20000 ∧ es.length ≤ 60) && isR base 0 0 0 es
theorem isR_spec {base : Int} : ∀ (es : List El) (last : Int) (k : Nat) (size : Int), size ≤ 20000 →
    (isR base last k size es = true ↔ (Nm base last k es ∧ (∀ e ∈ es, vld e.2.2 = true) ∧ size + szE es ≤ 20000))
  | [], last, k, size, h => by simp [isR, Nm, szE]; exact h
  | (f, t, T) :: es, last, k, size, h => by
    by_cases hT : T = []
    · subst hT
      have hv : vld [] = true := by decide
      simp only [isR, isE, Nm, if_true, Bool.and_eq_true, decide_eq_true_eq, szE, List.map_cons, List.sum_cons, List.length_nil]
      constructor
      · rintro ⟨⟨h1, h2, h3, h4, h5⟩, h6⟩
        have := (isR_spec es t 2 (size + (t - f)) (by omega)).1 h6
        simp only [szE] at this
        refine ⟨⟨h1, h2, h3, h4, this.1⟩, fun e he => ?_, by omega⟩
        rcases List.mem_cons.1 he with rfl | he
        · exact hv
        · exact this.2.1 e he
      · rintro ⟨⟨h1, h2, h3, h4, h5⟩, h6, h7⟩
        have hz : 0 ≤ szE es := by rw [← cel_size es t 2 h5]; omega
        simp only [szE] at hz
        refine ⟨⟨h1, h2, h3, h4, by omega⟩, (isR_spec es t 2 (size + (t - f)) (by omega)).2 ⟨h5, fun e he => h6 e (by simp [he]), by simp only [szE]; omega⟩⟩
    · simp only [isR, isE, Nm, if_neg hT, Bool.and_eq_true, decide_eq_true_eq, szE, List.map_cons, List.sum_cons]
      constructor
      · rintro ⟨⟨⟨h1, h2, h3, h4⟩, h5⟩, h6⟩
        have := (isR_spec es last 1 (size + T.length) (by omega)).1 h6
        simp only [szE] at this
        refine ⟨⟨h1, h2, h3, this.1⟩, fun e he => ?_, by omega⟩
        rcases List.mem_cons.1 he with rfl | he
        · exact h5
        · exact this.2.1 e he
      · rintro ⟨⟨h1, h2, h3, h4⟩, h6, h7⟩
        have hz : 0 ≤ szE es := by rw [← cel_size es last 1 h4]; omega
        simp only [szE] at hz
        refine ⟨⟨⟨h1, h2, h3, by omega⟩, h6 (f, t, T) (by simp)⟩, (isR_spec es last 1 (size + T.length) (by omega)).2 ⟨h4, fun e he => h6 e (by simp [he]), by simp only [szE]; omega⟩⟩
theorem isB_spec {base : Int} {es : List El} : isB base es = true ↔ ((0 ≤ base ∧ base ≤ 20000 ∧ es.length ≤ 60) ∧ Nm base 0 0 es ∧ (∀ e ∈ es, vld e.2.2 = true) ∧ szE es ≤ 20000) := by
  unfold isB
  rw [Bool.and_eq_true, decide_eq_true_eq, isR_spec es 0 0 0 (by omega)]
  simp
end Go.Proofs.YtafhogfbjklboaaDoor
namespace Go.Proofs.YtafhogfbjklboaaDoor
set_option linter.unusedSimpArgs false
set_option linter.unusedVariables false

/-- A text, if there is any. -/
def tx (T : List UInt8) : List El := if T = [] then [] else [(0, 0, T)]
/-- The elements of changes: the text since the last copy, where it ends. -/
def elG (base : Int) : List UInt8 → Int → List El → List El
  | txt, en, [] => tx txt ++ if en < base then [(en, base, [])] else []
  | txt, en, (f, t, T) :: l => if f = t ∧ T = [] then elG base txt en l else if en < f then tx txt ++ (en, f, []) :: elG base T t l else elG base (txt ++ T) t l
theorem cel_tx (T : List UInt8) : cel (tx T) = ownT T := by
  unfold tx
  split
  · rename_i h; subst h; rfl
  · simp [cel, ce1, rng]
theorem own_append (a b : List UInt8) : ownT (a ++ b) = ownT a ++ ownT b := by simp [ownT]
/-- Changes lie behind f. -/
theorem bce_from {base : Int} : ∀ (l : List El) (a f : Int), a ≤ f → Chs base f l → bce base a l = rng a f ++ bce base f l
  | [], a, f, h, hc => by simp only [bce]; exact rng_split h hc
  | (x, y, T) :: l, a, f, h, hc => by
    simp only [bce]
    rw [rng_split (f := a) (m := f) (t := x) h hc.1]
    simp only [List.append_assoc]
theorem chs_mono {base : Int} : ∀ (l : List El) (a f : Int), a ≤ f → Chs base f l → Chs base a l
  | [], a, f, h, hc => by simp only [Chs] at *; omega
  | (x, y, T) :: l, a, f, h, hc => ⟨by have := hc.1; omega, hc.2.1, hc.2.2.1, hc.2.2.2⟩
theorem cel_elG {base : Int} : ∀ (l : List El) (txt : List UInt8) (en : Int), Chs base en l → cel (elG base txt en l) = ownT txt ++ bce base en l
  | [], txt, en, hc => by
    simp only [elG, bce, cel_append, cel_tx]
    congr 1
    by_cases h : en < base
    · rw [if_pos h]; simp [cel, ce1, ownT]
    · rw [if_neg h, rng_none (by omega)]; rfl
  | (f, t, T) :: l, txt, en, hc => by
    obtain ⟨h1, h2, h3, h4⟩ := hc
    simp only [elG, bce]
    by_cases h : f = t ∧ T = []
    · obtain ⟨rfl, rfl⟩ := h
      rw [if_pos ⟨rfl, rfl⟩, cel_elG l txt en (chs_mono _ _ _ h1 h4), bce_from l en f h1 h4]
      simp [ownT]
    · rw [if_neg h]
      by_cases h5 : en < f
      · rw [if_pos h5, cel_append, cel_tx, cel_cons, cel_elG l T t h4]
        simp [ce1, ownT]
      · rw [if_neg h5, cel_elG l (txt ++ T) t h4, own_append, rng_none (by omega)]
        simp
theorem nm_tx {base : Int} {last : Int} {k : Nat} {txt : List UInt8} {es : List El} (hk : k ≠ 1) (h : Nm base last (if txt = [] then k else 1) es) : Nm base last k (tx txt ++ es) := by
  unfold tx
  by_cases e : txt = []
  · rw [if_pos e]; rw [if_pos e] at h; exact h
  · rw [if_neg e]; rw [if_neg e] at h
    show Nm base last k ((0, 0, txt) :: es)
    rw [Nm, if_neg e]
    exact ⟨rfl, rfl, hk, h⟩
theorem nm_elG {base : Int} : ∀ (l : List El) (txt : List UInt8) (en last : Int) (k : Nat), Chs base en l → last ≤ en → k ≠ 1 → (k = 2 → txt = [] → last < en) → Nm base last k (elG base txt en l)
  | [], txt, en, last, k, hc, h1, h2, h3 => by
    simp only [elG]
    refine nm_tx h2 ?_
    by_cases h : en < base
    · rw [if_pos h, Nm, if_pos rfl]
      refine ⟨h1, fun hk => ?_, h, Int.le_refl _, trivial⟩
      by_cases e : txt = []
      · rw [if_pos e] at hk; exact h3 hk e
      · rw [if_neg e] at hk; omega
    · rw [if_neg h]; trivial
  | (f, t, T) :: l, txt, en, last, k, hc, h1, h2, h3 => by
    obtain ⟨c1, c2, c3, c4⟩ := hc
    simp only [elG]
    by_cases h : f = t ∧ T = []
    · rw [if_pos h]
      obtain ⟨rfl, rfl⟩ := h
      exact nm_elG l txt en last k (chs_mono _ _ _ c1 c4) h1 h2 h3
    · rw [if_neg h]
      by_cases h5 : en < f
      · rw [if_pos h5]
        refine nm_tx h2 ?_
        rw [Nm, if_pos rfl]
        refine ⟨h1, fun hk => ?_, h5, by omega, nm_elG l T t f 2 c4 c2 (by omega) fun _ hT => ?_⟩
        · by_cases e : txt = []
          · rw [if_pos e] at hk; exact h3 hk e
          · rw [if_neg e] at hk; omega
        · subst hT
          have : f ≠ t := fun e => h ⟨e, rfl⟩
          omega
      · rw [if_neg h5]
        refine nm_elG l (txt ++ T) t last k c4 (by omega) h2 fun hk hT => ?_
        have e1 : txt = [] := (List.append_eq_nil_iff.1 hT).1
        have := h3 hk e1
        omega
/-- THE LEAST ELEMENTS. -/
theorem elG_tld {base : Int} {l : List El} (hc : Chs base 0 l) : elG base [] 0 l = tld (bce base 0 l) := by
  have h := nm_elG l [] 0 0 0 hc (Int.le_refl _) (by omega) (fun h => by omega)
  have e := tld_cel _ 0 0 (Int.le_refl _) h
  rw [cel_elG l [] 0 hc] at e
  simpa [ownT] using e.symm
/-- Valid texts together are valid. -/
theorem vld_two {a b : List UInt8} (ha : vld a = true) (hb : vld b = true) : vld (a ++ b) = true := by
  rw [← flat_pts' ha, vld_flat_append (good_pts' a)]
  exact hb
theorem vld_elG {base : Int} : ∀ (l : List El) (txt : List UInt8) (en : Int), vld txt = true → (∀ e ∈ l, vld e.2.2 = true) → ∀ e ∈ elG base txt en l, vld e.2.2 = true
  | [], txt, en, hv, hl, e, he => by
    simp only [elG, List.mem_append] at he
    rcases he with he | he
    · unfold tx at he
      split at he
      · cases he
      · simp at he; subst he; exact hv
    · split at he
      · simp at he; subst he; exact vld_nil
      · cases he
  | (f, t, T) :: l, txt, en, hv, hl, e, he => by
    have hT : vld T = true := hl (f, t, T) (by simp)
    have hl' : ∀ e ∈ l, vld e.2.2 = true := fun e h => hl e (by simp [h])
    simp only [elG] at he
    split at he
    · exact vld_elG l txt en hv hl' e he
    · split at he
      · simp only [List.mem_append, List.mem_cons] at he
        rcases he with he | rfl | he
        · unfold tx at he
          split at he
          · cases he
          · simp at he; subst he; exact hv
        · exact vld_nil
        · exact vld_elG l T t hT hl' e he
      · exact vld_elG l (txt ++ T) t (vld_two hv hT) hl' e he
/-- How many bytes changes make it. -/
def sz8 (base : Int) (l : List El) : Int := base + (l.map fun e => (e.2.2.length : Int) - (e.2.1 - e.1)).sum
theorem bce_size {base : Int} : ∀ (l : List El) (a : Int), Chs base a l → ((bce base a l).length : Int) = sz8 (base - a) l
  | [], a, hc => by simp only [bce, rng_len, sz8, List.map_nil, List.sum_nil, Chs] at *; omega
  | (f, t, T) :: l, a, hc => by
    obtain ⟨c1, c2, c3, c4⟩ := hc
    have ih := bce_size l t c4
    simp only [bce, List.length_append, rng_len, own_len, sz8, List.map_cons, List.sum_cons] at ih ⊢
    omega
theorem elG_size {base : Int} {l : List El} (hc : Chs base 0 l) : szE (elG base [] 0 l) = sz8 base l := by
  have h := nm_elG l [] 0 0 0 hc (Int.le_refl _) (by omega) (fun h => by omega)
  have e := cel_size _ 0 0 h
  rw [cel_elG l [] 0 hc] at e
  have e2 := bce_size l 0 hc
  simp only [ownT, List.map_nil, List.nil_append] at e
  rw [← e, e2]
  congr 1
  omega
/-- What Is asks, but for the size. -/
def stE (base last : Int) (k : Nat) (e : El) : Bool :=
  if e.2.2 = [] then decide (last ≤ e.1 ∧ (k = 2 → last < e.1) ∧ e.1 < e.2.1 ∧ e.2.1 ≤ base) else decide (e.1 = 0 ∧ e.2.1 = 0 ∧ k ≠ 1) && vld e.2.2
def stR (base : Int) : Int → Nat → List El → Bool
  | _, _, [] => true
  | last, k, e :: es => stE base last k e && (if e.2.2 = [] then stR base e.2.1 2 es else stR base last 1 es)
theorem stR_spec {base : Int} : ∀ (es : List El) (last : Int) (k : Nat), (stR base last k es = true ↔ (Nm base last k es ∧ ∀ e ∈ es, vld e.2.2 = true))
  | [], last, k => by simp [stR, Nm]
  | (f, t, T) :: es, last, k => by
    by_cases hT : T = []
    · subst hT
      have hv : vld [] = true := by decide
      simp only [stR, stE, Nm, if_true, Bool.and_eq_true, decide_eq_true_eq, stR_spec es t 2, List.mem_cons, forall_eq_or_imp]
      constructor
      · rintro ⟨⟨h1, h2, h3, h4⟩, h5, h6⟩; exact ⟨⟨h1, h2, h3, h4, h5⟩, hv, h6⟩
      · rintro ⟨⟨h1, h2, h3, h4, h5⟩, _, h6⟩; exact ⟨⟨h1, h2, h3, h4⟩, h5, h6⟩
    · simp only [stR, stE, Nm, if_neg hT, Bool.and_eq_true, decide_eq_true_eq, stR_spec es last 1, List.mem_cons, forall_eq_or_imp]
      constructor
      · rintro ⟨⟨⟨h1, h2, h3⟩, h4⟩, h5, h6⟩; exact ⟨⟨h1, h2, h3, h5⟩, h4, h6⟩
      · rintro ⟨⟨h1, h2, h3, h5⟩, h4, h6⟩; exact ⟨⟨⟨h1, h2, h3⟩, h4⟩, h5, h6⟩
theorem isB_st (base : Int) (es : List El) : isB base es = (decide (0 ≤ base ∧ base ≤ 20000 ∧ es.length ≤ 60) && (stR base 0 0 es && decide (szE es ≤ 20000))) := by
  rw [Bool.eq_iff_iff, isB_spec, Bool.and_eq_true, Bool.and_eq_true, stR_spec, decide_eq_true_eq, decide_eq_true_eq]
  constructor
  · rintro ⟨h1, h2, h3, h4⟩; exact ⟨h1, ⟨h2, h3⟩, h4⟩
  · rintro ⟨h1, ⟨h2, h3⟩, h4⟩; exact ⟨h1, h2, h3, h4⟩
/-- The copies', the inserts' bytes. -/
def cpS (es : List El) : Int := (es.map fun e => e.2.1 - e.1).sum
def inS (es : List El) : Nat := (es.map fun e => e.2.2.length).sum
theorem cpS_append (a b : List El) : cpS (a ++ b) = cpS a + cpS b := by simp [cpS]
theorem inS_append (a b : List El) : inS (a ++ b) = inS a + inS b := by simp [inS]
theorem szE_two (es : List El) : szE es = cpS es + (inS es : Int) := by
  induction es with
  | nil => rfl
  | cons e es ih => simp only [szE, cpS, inS, List.map_cons, List.sum_cons] at *; omega
/-- Elements within some bounds. -/
def Bd (es : List El) : Prop := ∀ e ∈ es, 0 ≤ e.1 ∧ e.1 ≤ e.2.1 ∧ e.2.1 ≤ 20000
theorem nm_bd {base : Int} (hb : base ≤ 20000) : ∀ (es : List El) (last : Int) (k : Nat), 0 ≤ last → Nm base last k es → Bd es
  | [], _, _, _, _ => fun e h => by cases h
  | (f, t, T) :: es, last, k, h0, h => by
    by_cases hT : T = []
    · rw [Nm, if_pos hT] at h
      have ih := nm_bd hb es t 2 (by omega) h.2.2.2.2
      intro e he
      rcases List.mem_cons.1 he with rfl | he
      · simp only; omega
      · exact ih e he
    · rw [Nm, if_neg hT] at h
      have ih := nm_bd hb es last 1 h0 h.2.2.2
      intro e he
      rcases List.mem_cons.1 he with rfl | he
      · simp only; omega
      · exact ih e he
theorem cpS_bd : ∀ (es : List El), Bd es → 0 ≤ cpS es ∧ cpS es ≤ 20000 * es.length
  | [], _ => by simp [cpS]
  | e :: es, h => by
    have ih := cpS_bd es (fun x hx => h x (by simp [hx]))
    have := h e (by simp)
    simp only [cpS, List.map_cons, List.sum_cons, List.length_cons] at *
    omega
theorem Bd.take {es : List El} (h : Bd es) (k : Nat) : Bd (es.take k) := fun e he => h e (List.mem_of_mem_take he)
theorem nm_cp {base : Int} : ∀ (es : List El) (last : Int) (k : Nat), Nm base last k es → cpS es ≤ max 0 (base - last)
  | [], last, k, h => by simp [cpS]; omega
  | (f, t, T) :: es, last, k, h => by
    by_cases hT : T = []
    · rw [Nm, if_pos hT] at h
      have ih := nm_cp es t 2 h.2.2.2.2
      simp only [cpS, List.map_cons, List.sum_cons] at *
      omega
    · rw [Nm, if_neg hT] at h
      have ih := nm_cp es last 1 h.2.2.2
      simp only [cpS, List.map_cons, List.sum_cons] at *
      omega
end Go.Proofs.YtafhogfbjklboaaDoor
