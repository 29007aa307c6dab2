/- Deltas: elements and the bytes that they make; plain mathematics (layers 11 to 14). -/
import Derived.Below
namespace Go.Proofs.YtalolaajcmndeaaDoor
set_option linter.unusedSimpArgs false
set_option linter.unusedVariables false

/-- An element, a change: from, to, a text. -/
abbrev El := Int × Int × List UInt8
/-- A byte that is made: one of the base (0 or above), or one of one's ownT (-1). -/
abbrev Ce := Int × UInt8
/-- The places from f to t. -/
def rng (f t : Int) : List Ce := (List.range (t - f).toNat).map fun i => (f + (i : Nat), 0)
def ownT (T : List UInt8) : List Ce := T.map fun b => (-1, b)
def ce1 (e : El) : List Ce := ownT e.2.2 ++ rng e.1 e.2.1
def cel (es : List El) : List Ce := es.flatMap ce1
theorem cel_nil : cel [] = [] := rfl
theorem cel_cons (e : El) (es : List El) : cel (e :: es) = ce1 e ++ cel es := by simp [cel]
theorem cel_append (a b : List El) : cel (a ++ b) = cel a ++ cel b := by simp [cel]
theorem rng_len (f t : Int) : (rng f t).length = (t - f).toNat := by simp [rng]
theorem own_len (T : List UInt8) : (ownT T).length = T.length := by simp [ownT]
theorem rng_none {f t : Int} (h : t ≤ f) : rng f t = [] := by simp [rng, show (t - f).toNat = 0 by omega]
theorem rng_cons {f t : Int} (h : f < t) : rng f t = (f, 0) :: rng (f + 1) t := by
  unfold rng
  obtain ⟨n, hn⟩ : ∃ n, (t - f).toNat = n + 1 := ⟨(t - f).toNat - 1, by omega⟩
  rw [hn, show (t - (f + 1)).toNat = n by omega, List.range_succ_eq_map]
  simp only [List.map_cons, List.map_map]
  congr 1
  · simp
  · refine List.map_congr_left fun i _ => ?_
    simp only [Function.comp, Nat.succ_eq_add_one]
    congr 1
    omega
theorem rng_snoc {f t : Int} (h : f ≤ t) : rng f (t + 1) = rng f t ++ [(t, 0)] := by
  unfold rng
  rw [show (t + 1 - f).toNat = (t - f).toNat + 1 by omega, List.range_succ, List.map_append]
  simp
  omega
theorem rng_split {f m t : Int} (h1 : f ≤ m) (h2 : m ≤ t) : rng f t = rng f m ++ rng m t := by
  obtain ⟨n, rfl⟩ : ∃ n : Nat, t = m + n := ⟨(t - m).toNat, by omega⟩
  clear h2
  induction n with
  | zero => simp [rng_none]
  | succ n ih =>
    rw [show m + ((n + 1 : Nat) : Int) = m + (n : Int) + 1 by omega, rng_snoc (by omega), rng_snoc (by omega), ih, List.append_assoc]
/-- Elements as they may stand behind last (k: 0 the start, 1 behind a text, 2 behind what is kept). -/
def Nm (base : Int) : Int → Nat → List El → Prop
  | _, _, [] => True
  | last, k, (f, t, T) :: es => if T = [] then last ≤ f ∧ (k = 2 → last < f) ∧ f < t ∧ t ≤ base ∧ Nm base t 2 es else f = 0 ∧ t = 0 ∧ k ≠ 1 ∧ Nm base last 1 es
/-- One byte more, ahead of elements. -/
def puc (c : Ce) (es : List El) : List El :=
  if c.1 < 0 then
    match es with
    | (f, t, T) :: r => if T = [] then (0, 0, [c.2]) :: (f, t, T) :: r else (0, 0, c.2 :: T) :: r
    | [] => [(0, 0, [c.2])]
  else
    match es with
    | (f, t, T) :: r => if T = [] ∧ f = c.1 + 1 then (c.1, t, []) :: r else (c.1, c.1 + 1, []) :: (f, t, T) :: r
    | [] => [(c.1, c.1 + 1, [])]
/-- The least elements of bytes. -/
def tld (l : List Ce) : List El := l.foldr puc []
theorem tld_cons (c : Ce) (l : List Ce) : tld (c :: l) = puc c (tld l) := rfl
/-- The head isn't a text; isn't kept from p on. -/
def NoTx (es : List El) : Prop := ∀ e r, es = e :: r → e.2.2 = []
def NoAt (p : Int) (es : List El) : Prop := ∀ e r, es = e :: r → e.2.2 = [] → e.1 ≠ p
theorem tld_own : ∀ (T : List UInt8) (l : List Ce), T ≠ [] → NoTx (tld l) → tld (ownT T ++ l) = (0, 0, T) :: tld l
  | [], _, h, _ => absurd rfl h
  | [b], l, _, h => by
    show puc (-1, b) (tld l) = _
    unfold puc
    rw [if_pos (show (-1 : Int) < 0 by omega)]
    cases e : tld l with
    | nil => rfl
    | cons x r => obtain ⟨f, t, T⟩ := x; have := h _ _ e; simp only at this; subst this; simp
  | b :: c :: T, l, _, h => by
    have ih := tld_own (c :: T) l (by simp) h
    show puc (-1, b) (tld (ownT (c :: T) ++ l)) = _
    rw [ih]
    simp [puc]
theorem tld_rng : ∀ (n : Nat) (f t : Int) (l : List Ce), (t - f).toNat = n → 0 ≤ f → f < t → NoAt t (tld l) → tld (rng f t ++ l) = (f, t, []) :: tld l
  | 0, f, t, _, hn, _, h, _ => by omega
  | n + 1, f, t, l, hn, h0, h, ha => by
    rw [rng_cons h]
    show puc (f, 0) (tld (rng (f + 1) t ++ l)) = _
    by_cases e : f + 1 = t
    · subst e
      rw [rng_none (Int.le_refl _), List.nil_append]
      unfold puc
      rw [if_neg (by simp only; omega)]
      cases e : tld l with
      | nil => rfl
      | cons x r =>
        obtain ⟨f', t', T⟩ := x
        have := ha _ _ e
        simp only at this ⊢
        rw [if_neg (fun h => this h.1 h.2)]
    · rw [tld_rng n (f + 1) t l (by omega) (by omega) (by omega) ha]
      unfold puc
      rw [if_neg (by simp only; omega)]
      simp
/-- Elements that stand as they may are told again by their bytes. -/
theorem tld_cel {base : Int} : ∀ (es : List El) (last : Int) (k : Nat), 0 ≤ last → Nm base last k es → tld (cel es) = es
  | [], _, _, _, _ => rfl
  | (f, t, T) :: es, last, k, h0, h => by
    rw [cel_cons]
    by_cases hT : T = []
    · subst hT
      rw [Nm, if_pos rfl] at h
      obtain ⟨h1, h2, h3, h4, h5⟩ := h
      have ih := tld_cel es t 2 (by omega) h5
      show tld (rng f t ++ cel es) = _
      rw [tld_rng _ f t (cel es) rfl (by omega) h3 (by
        rw [ih]
        rintro ⟨f', t', T'⟩ r e hT'
        simp only at hT'
        subst e hT'
        rw [Nm, if_pos rfl] at h5
        have := h5.2.1 rfl
        simp only
        omega), ih]
    · rw [Nm, if_neg hT] at h
      obtain ⟨h1, h2, h3, h4⟩ := h
      subst h1 h2
      have ih := tld_cel es last 1 h0 h4
      show tld (ownT T ++ rng 0 0 ++ cel es) = _
      rw [rng_none (Int.le_refl _), List.append_nil, tld_own T (cel es) hT (by
        rw [ih]
        rintro ⟨f', t', T'⟩ r e
        subst e
        by_cases hT' : T' = []
        · exact hT'
        · rw [Nm, if_neg hT'] at h4
          exact absurd rfl h4.2.2.1), ih]
/-- What bytes make of a text. -/
def apl (l : List Ce) (s : List UInt8) : List UInt8 := l.map fun c => if c.1 < 0 then c.2 else s.getD c.1.toNat 0
theorem apl_append (a b : List Ce) (s : List UInt8) : apl (a ++ b) s = apl a s ++ apl b s := by simp [apl]
theorem apl_own (T s : List UInt8) : apl (ownT T) s = T := by
  simp [apl, ownT, Function.comp_def]
theorem apl_rng {f t : Int} {s : List UInt8} (h0 : 0 ≤ f) (h1 : f ≤ t) (h2 : t ≤ s.length) : apl (rng f t) s = (s.drop f.toNat).take (t - f).toNat := by
  apply List.ext_getElem
  · simp [apl, rng_len]; omega
  intro i a b
  have hi : i < (t - f).toNat := by simpa [apl, rng_len] using a
  have e : (f + (i : Int)).toNat = f.toNat + i := by omega
  simp [apl, rng, e, show ¬ f + (i : Int) < 0 by omega, List.getElem?_eq_getElem (show f.toNat + i < s.length by omega)]
theorem apl_cel {base : Int} {s : List UInt8} (hb : base ≤ s.length) : ∀ (es : List El) (last : Int) (k : Nat), 0 ≤ last → Nm base last k es → apl (cel es) s = es.flatMap fun e => e.2.2 ++ (s.drop e.1.toNat).take (e.2.1 - e.1).toNat
  | [], _, _, _, _ => rfl
  | (f, t, T) :: es, last, k, h0, h => by
    rw [cel_cons, apl_append, List.flatMap_cons]
    by_cases hT : T = []
    · subst hT
      rw [Nm, if_pos rfl] at h
      obtain ⟨h1, h2, h3, h4, h5⟩ := h
      rw [apl_cel hb es t 2 (by omega) h5]
      congr 1
      show apl (rng f t) s = _
      rw [apl_rng (by omega) (by omega) (by omega)]
      simp
    · rw [Nm, if_neg hT] at h
      obtain ⟨h1, h2, h3, h4⟩ := h
      subst h1 h2
      rw [apl_cel hb es last 1 h0 h4]
      congr 1
      show apl (ownT T ++ rng 0 0) s = _
      rw [rng_none (Int.le_refl _), List.append_nil, apl_own]
      simp
/-- The bytes of changes. -/
def bce (base : Int) : Int → List El → List Ce
  | at', [] => rng at' base
  | at', (f, t, T) :: l => rng at' f ++ ownT T ++ bce base t l
/-- The changes lie in the base, one behind the other. -/
def Chs (base : Int) : Int → List El → Prop
  | at', [] => at' ≤ base
  | at', (f, t, T) :: l => at' ≤ f ∧ f ≤ t ∧ t ≤ base ∧ Chs base t l
/-- How long elements, changes make it. -/
def szE (es : List El) : Int := (es.map fun e => (e.2.2.length : Int) + (e.2.1 - e.1)).sum
theorem cel_size {base : Int} : ∀ (es : List El) (last : Int) (k : Nat), Nm base last k es → ((cel es).length : Int) = szE es
  | [], _, _, _ => rfl
  | (f, t, T) :: es, last, k, h => by
    rw [cel_cons, List.length_append]
    have e : ((ce1 (f, t, T)).length : Int) = (T.length : Int) + ((t - f).toNat : Int) := by simp [ce1, own_len, rng_len]
    by_cases hT : T = []
    · subst hT
      rw [Nm, if_pos rfl] at h
      have ih := cel_size es t 2 h.2.2.2.2
      simp only [szE, List.map_cons, List.sum_cons] at ih ⊢
      simp only [List.length_nil] at e ⊢
      omega
    · rw [Nm, if_neg hT] at h
      obtain ⟨h1, h2, h3, h4⟩ := h
      have ih := cel_size es last 1 h4
      simp only [szE, List.map_cons, List.sum_cons] at ih ⊢
      omega
end Go.Proofs.YtalolaajcmndeaaDoor
