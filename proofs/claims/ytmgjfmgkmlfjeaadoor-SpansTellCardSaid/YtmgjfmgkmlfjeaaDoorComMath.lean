/- Deltas one behind the other: plain mathematics (layer 13; written ahead of its code). -/
import Derived.Test.YtmgjfmgkmlfjeaaDoorDelHelp
namespace Go.Proofs.YtmgjfmgkmlfjeaaDoor
set_option linter.unusedSimpArgs false
set_option linter.unusedVariables false

theorem getD_lt {α : Type} (l : List α) (k : Nat) (d : α) (h : k < l.length) : l.getD k d = l[k] := by
  rw [List.getD_eq_getElem?_getD, List.getElem?_eq_getElem h]; rfl
theorem getD_map {α β : Type} (g : α → β) (l : List α) (k : Nat) (d : β) (h : k < l.length) : (l.map g).getD k d = g l[k] := by
  rw [getD_lt _ _ _ (by simpa using h)]; simp
/-- What b makes of what a makes: the cells of both at once. -/
def twoC (A B : List Ce) : List Ce := B.map fun c => if c.1 < 0 then c else A.getD c.1.toNat (0, 0)
theorem twoC_nil (A : List Ce) : twoC A [] = [] := rfl
theorem twoC_append (A B C : List Ce) : twoC A (B ++ C) = twoC A B ++ twoC A C := by simp [twoC]
theorem twoC_len (A B : List Ce) : (twoC A B).length = B.length := by simp [twoC]
theorem twoC_own (A : List Ce) (T : List UInt8) : twoC A (ownT T) = ownT T := by
  simp only [twoC, ownT, List.map_map]
  refine List.map_congr_left fun b _ => ?_
  rfl
theorem twoC_rng {A : List Ce} {f t : Int} (h0 : 0 ≤ f) (h1 : f ≤ t) (h2 : t ≤ A.length) : twoC A (rng f t) = (A.drop f.toNat).take (t - f).toNat := by
  apply List.ext_getElem
  · simp [twoC_len, rng_len]; omega
  intro i a b
  have hi : i < (t - f).toNat := by simpa [twoC_len, rng_len] using a
  have e : (f + (i : Int)).toNat = f.toNat + i := by omega
  simp [twoC, rng, e, show ¬ f + (i : Int) < 0 by omega, List.getElem?_eq_getElem (show f.toNat + i < A.length by omega)]
/-- Bytes of a text of n bytes. -/
def InC (n : Nat) (B : List Ce) : Prop := ∀ c ∈ B, c.1 < 0 ∨ c.1 < n
/-- Two at once make what one makes behind the other. -/
theorem apl_two {A B : List Ce} {s : List UInt8} (h : InC A.length B) : apl (twoC A B) s = apl B (apl A s) := by
  simp only [apl, twoC, List.map_map]
  refine List.map_congr_left fun c hc => ?_
  simp only [Function.comp]
  by_cases h0 : c.1 < 0
  · simp [h0]
  · rcases h c hc with h1 | h1
    · exact absurd h1 h0
    have hl : c.1.toNat < A.length := by omega
    rw [if_neg h0, if_neg h0, getD_lt _ _ _ hl, getD_map _ _ _ _ hl]
theorem apl_len (A : List Ce) (s : List UInt8) : (apl A s).length = A.length := by simp [apl]
/-- Whichever two are put together first. -/
theorem two_assoc {A B C : List Ce} (hC : InC B.length C) : twoC A (twoC B C) = twoC (twoC A B) C := by
  simp only [twoC, List.map_map]
  refine List.map_congr_left fun c hc => ?_
  simp only [Function.comp]
  by_cases h0 : c.1 < 0
  · simp [h0]
  · rcases hC c hc with h1 | h1
    · exact absurd h1 h0
    have hl : c.1.toNat < B.length := by omega
    rw [if_neg h0, if_neg h0, getD_lt _ _ _ hl, getD_map _ _ _ _ hl]
/-- With one that keeps all. -/
theorem two_keepL {n : Nat} {B : List Ce} (h : InC n B) (hz : ∀ c ∈ B, 0 ≤ c.1 → c.2 = 0) : twoC (rng 0 n) B = B := by
  conv => rhs; rw [← List.map_id B]
  refine List.map_congr_left fun c hc => ?_
  by_cases h0 : c.1 < 0
  · rw [if_pos h0]; rfl
  · rcases h c hc with h1 | h1
    · exact absurd h1 h0
    have hr : (rng 0 n)[c.1.toNat]? = some (0 + (c.1.toNat : Int), 0) := by
      unfold rng
      rw [List.getElem?_map, List.getElem?_range (by omega)]
      rfl
    rw [if_neg h0, List.getD_eq_getElem?_getD, hr]
    obtain ⟨p, b⟩ := c
    have := hz (p, b) hc (by simp only at h0 ⊢; omega)
    simp only at this h0 ⊢
    subst this
    show ((0 + (p.toNat : Int), (0 : UInt8)) : Ce) = (p, 0)
    rw [show (0 : Int) + (p.toNat : Int) = p by omega]
theorem two_keepR (A : List Ce) : twoC A (rng 0 A.length) = A := by
  rw [twoC_rng (Int.le_refl _) (by omega) (Int.le_refl _)]
  simp
/-- One element more, behind the others: one with the last one, if both can be one. -/
def padd : List El → El → List El
  | [], e => [e]
  | [x], e => if x.2.2 = [] ∧ e.2.2 = [] ∧ x.2.1 = e.1 then [(x.1, e.2.1, [])] else if x.2.2 ≠ [] ∧ e.2.2 ≠ [] then [(x.1, x.2.1, x.2.2 ++ e.2.2)] else [x, e]
  | x :: y :: r, e => x :: padd (y :: r) e
theorem padd_ne (es : List El) (e : El) : padd es e ≠ [] := by
  match es with
  | [] => simp [padd]
  | [x] => simp only [padd]; split <;> (try split) <;> simp
  | x :: y :: r => simp [padd]
theorem padd_cons {es : List El} (h : es ≠ []) (x e : El) : padd (x :: es) e = x :: padd es e := by
  cases es with
  | nil => exact absurd rfl h
  | cons y r => rfl
/-- What an element must be. -/
def Gd1 (e : El) : Prop := (e.2.2 = [] ∧ 0 ≤ e.1 ∧ e.1 < e.2.1) ∨ (e.2.2 ≠ [] ∧ e.1 = 0 ∧ e.2.1 = 0)
theorem puc_one (c : Ce) {e : El} (h : Gd1 e) : puc c [e] = padd (puc c []) e := by
  obtain ⟨f, t, T⟩ := e
  unfold puc
  by_cases hc : c.1 < 0
  · simp only [if_pos hc]
    by_cases hT : T = []
    · subst hT; simp [padd]
    · simp [padd, hT]
  · simp only [if_neg hc]
    by_cases hT : T = []
    · subst hT
      by_cases hf : f = c.1 + 1
      · subst hf; simp [padd]
      · have : ¬ c.1 + 1 = f := fun e => hf e.symm
        simp [padd, hf, this]
    · simp [padd, hT]
theorem puc_two (c : Ce) (x : El) (es : List El) : ∃ p : List El, puc c (x :: es) = p ++ es ∧ p ≠ [] ∧ ∀ r, puc c (x :: r) = p ++ r := by
  obtain ⟨f, t, T⟩ := x
  unfold puc
  by_cases hc : c.1 < 0
  · simp only [if_pos hc]
    by_cases hT : T = []
    · exact ⟨[(0, 0, [c.2]), (f, t, T)], by simp [hT], by simp, fun r => by simp [hT]⟩
    · exact ⟨[(0, 0, c.2 :: T)], by simp [hT], by simp, fun r => by simp [hT]⟩
  · simp only [if_neg hc]
    by_cases hT : T = [] ∧ f = c.1 + 1
    · exact ⟨[(c.1, t, [])], by simp [hT], by simp, fun r => by simp [hT]⟩
    · exact ⟨[(c.1, c.1 + 1, []), (f, t, T)], by simp [hT], by simp, fun r => by simp [hT]⟩
theorem padd_append : ∀ (p es : List El) (e : El), es ≠ [] → padd (p ++ es) e = p ++ padd es e
  | [], es, e, _ => rfl
  | x :: p, es, e, h => by
    rw [List.cons_append, padd_cons (by simp [h]), padd_append p es e h, List.cons_append]
theorem puc_single (c : Ce) {x e : El} (hx : Gd1 x) (he : Gd1 e) : puc c (padd [x] e) = padd (puc c [x]) e := by
  obtain ⟨f, t, T⟩ := x
  obtain ⟨f', t', T'⟩ := e
  by_cases hc : c.1 < 0
  · by_cases hT : T = [] <;> by_cases hT' : T' = []
    · subst hT hT'
      by_cases ht : t = f' <;> simp [padd, puc, hc, ht]
    · subst hT
      simp [padd, puc, hc, hT']
    · subst hT'
      simp [padd, puc, hc, hT]
    · simp [padd, puc, hc, hT, hT']
  · by_cases hT : T = [] <;> by_cases hT' : T' = []
    · subst hT hT'
      by_cases ht : t = f' <;> by_cases hf : f = c.1 + 1 <;> simp [padd, puc, hc, ht, hf]
    · subst hT
      by_cases hf : f = c.1 + 1 <;> simp [padd, puc, hc, hT', hf]
    · subst hT'
      simp [padd, puc, hc, hT]
    · simp [padd, puc, hc, hT, hT']
/-- All elements are what they must be. -/
theorem puc_gd (c : Ce) {es : List El} (h : ∀ e ∈ es, Gd1 e) : ∀ e ∈ puc c es, Gd1 e := by
  intro e he
  unfold puc at he
  split at he
  · rename_i hc
    split at he
    · rename_i f t T r
      split at he
      · rcases List.mem_cons.1 he with rfl | he
        · exact Or.inr ⟨by simp, rfl, rfl⟩
        · exact h e he
      · rename_i hT
        rcases List.mem_cons.1 he with rfl | he
        · exact Or.inr ⟨by simp, rfl, rfl⟩
        · exact h e (by simp [he])
    · simp only [List.mem_singleton] at he
      subst he
      exact Or.inr ⟨by simp, rfl, rfl⟩
  · rename_i hc
    split at he
    · rename_i f t T r
      split at he
      · rename_i hT
        have hx := h (f, t, T) (by simp)
        rcases List.mem_cons.1 he with rfl | he
        · rcases hx with hx | hx
          · simp only at hx
            exact Or.inl ⟨rfl, by simp only; omega, by simp only; omega⟩
          · exact absurd hT.1 hx.1
        · exact h e (by simp [he])
      · rcases List.mem_cons.1 he with rfl | he
        · exact Or.inl ⟨rfl, by simp only; omega, by simp only; omega⟩
        · exact h e he
    · simp only [List.mem_singleton] at he
      subst he
      exact Or.inl ⟨rfl, by simp only; omega, by simp only; omega⟩
theorem tld_gd : ∀ (l : List Ce), ∀ e ∈ tld l, Gd1 e
  | [], e, he => by cases he
  | c :: l, e, he => puc_gd c (tld_gd l) e he
theorem puc_padd (c : Ce) {es : List El} {e : El} (h : ∀ x ∈ es, Gd1 x) (he : Gd1 e) : puc c (padd es e) = padd (puc c es) e := by
  match es with
  | [] => exact puc_one c he
  | [x] => exact puc_single c (h x (by simp)) he
  | x :: y :: r =>
    obtain ⟨p, h1, h2, h3⟩ := puc_two c x (y :: r)
    rw [padd_cons (by simp), h3, h1, padd_append p (y :: r) e (by simp)]
/-- THE LEAST ELEMENTS of bytes with a piece behind them. -/
theorem tld_padd {e : El} (he : Gd1 e) : ∀ (l : List Ce), tld (l ++ ce1 e) = padd (tld l) e
  | [] => by
    obtain ⟨f, t, T⟩ := e
    show tld (ownT T ++ rng f t) = [(f, t, T)]
    rcases he with ⟨h1, h2, h3⟩ | ⟨h1, h2, h3⟩
    · simp only at h1 h2 h3
      subst h1
      have := tld_rng (t - f).toNat f t [] rfl h2 h3 (fun e r h => by cases h)
      rw [List.append_nil] at this
      exact this
    · simp only at h1 h2 h3
      subst h2 h3
      rw [rng_none (Int.le_refl _), tld_own T [] h1 (fun e r h => by cases h)]
      rfl
  | c :: l => by
    show puc c (tld (l ++ ce1 e)) = padd (puc c (tld l)) e
    rw [tld_padd he l, puc_padd c (tld_gd l) he]
theorem tld_elems {es : List El} (h : ∀ e ∈ es, Gd1 e) (l : List Ce) : tld (l ++ cel es) = es.foldl padd (tld l) := by
  induction es generalizing l with
  | nil => simp [cel]
  | cons e es ih =>
    rw [cel_cons, ← List.append_assoc, ih (fun x hx => h x (by simp [hx])), tld_padd (h e (by simp))]
    rfl
theorem nm_gd {base : Int} : ∀ (es : List El) (last : Int) (k : Nat), 0 ≤ last → Nm base last k es → ∀ e ∈ es, Gd1 e
  | [], _, _, _, _, e, he => by cases he
  | (f, t, T) :: es, last, k, h0, h, e, he => by
    by_cases hT : T = []
    · subst hT
      rw [Nm, if_pos rfl] at h
      rcases List.mem_cons.1 he with rfl | he
      · exact Or.inl ⟨rfl, by simp only; omega, h.2.2.1⟩
      · exact nm_gd es t 2 (by omega) h.2.2.2.2 e he
    · rw [Nm, if_neg hT] at h
      rcases List.mem_cons.1 he with rfl | he
      · exact Or.inr ⟨hT, h.1, h.2.1⟩
      · exact nm_gd es last 1 h0 h.2.2.2 e he
/-- Bytes of which the kept ones go up, from a on, below base. -/
def Up (base : Int) : Int → List Ce → Prop
  | _, [] => True
  | a, c :: cs => if c.1 < 0 then c.1 = -1 ∧ Up base a cs else a ≤ c.1 ∧ c.1 < base ∧ c.2 = 0 ∧ Up base (c.1 + 1) cs
theorem up_mono {base : Int} : ∀ (cs : List Ce) (a b : Int), a ≤ b → Up base b cs → Up base a cs
  | [], _, _, _, _ => trivial
  | c :: cs, a, b, h, hu => by
    unfold Up at hu ⊢
    split
    · rename_i hc; rw [if_pos hc] at hu; exact ⟨hu.1, up_mono cs a b h hu.2⟩
    · rename_i hc; rw [if_neg hc] at hu; exact ⟨by omega, hu.2⟩
theorem up_own {base a : Int} : ∀ (T : List UInt8) {cs : List Ce}, Up base a cs → Up base a (ownT T ++ cs)
  | [], cs, h => h
  | b :: T, cs, h => by
    show Up base a ((-1, b) :: (ownT T ++ cs))
    rw [Up, if_pos (by simp only; omega)]
    exact ⟨rfl, up_own T h⟩
theorem up_rng {base : Int} {cs : List Ce} {t : Int} (h : Up base t cs) : ∀ (n : Nat) (f a : Int), (t - f).toNat = n → a ≤ f → 0 ≤ f → f ≤ t → t ≤ base → Up base a (rng f t ++ cs)
  | 0, f, a, hn, ha, _, h1, _ => by
    have : f = t := by omega
    subst this
    rw [rng_none (Int.le_refl _)]; exact up_mono cs a f ha h
  | n + 1, f, a, hn, ha, h0, h1, hb => by
    rw [rng_cons (by omega)]
    show Up base a ((f, 0) :: (rng (f + 1) t ++ cs))
    rw [Up, if_neg (by simp only; omega)]
    exact ⟨ha, by simp only; omega, rfl, up_rng h n (f + 1) (f + 1) (by omega) (Int.le_refl _) (by omega) (by omega) hb⟩
theorem up_cel {base : Int} : ∀ (es : List El) (last : Int) (k : Nat), 0 ≤ last → Nm base last k es → Up base last (cel es)
  | [], _, _, _, _ => trivial
  | (f, t, T) :: es, last, k, h0, h => by
    rw [cel_cons, show ce1 (f, t, T) = ownT T ++ rng f t from rfl]
    by_cases hT : T = []
    · subst hT
      rw [Nm, if_pos rfl] at h
      exact up_rng (up_cel es t 2 (by omega) h.2.2.2.2) _ f last rfl h.1 (by omega) (by omega) h.2.2.2.1
    · rw [Nm, if_neg hT] at h
      rw [h.1, h.2.1, rng_none (Int.le_refl _), List.append_nil]
      exact up_own T (up_cel es last 1 h0 h.2.2.2)
/-- Bytes that go up are told by elements that stand as they may. -/
theorem nm_k {base last : Int} {es : List El} {k : Nat} (h : Nm base last k es) (q : Nat) (h1 : q = 1 → NoTx es) (h2 : q = 2 → ∀ e r, es = e :: r → e.2.2 = [] → last < e.1) : Nm base last q es := by
  cases es with
  | nil => trivial
  | cons e es =>
    obtain ⟨f, t, T⟩ := e
    by_cases hT : T = []
    · subst hT
      rw [Nm, if_pos rfl] at h ⊢
      exact ⟨h.1, fun e => h2 e _ _ rfl rfl, h.2.2⟩
    · rw [Nm, if_neg hT] at h ⊢
      exact ⟨h.1, h.2.1, fun e => hT (h1 e _ _ rfl), h.2.2.2⟩
theorem up_nm {base : Int} : ∀ (cs : List Ce) (a : Int), 0 ≤ a → Up base a cs → Nm base a 0 (tld cs)
  | [], _, _, _ => trivial
  | c :: cs, a, h0, hu => by
    rw [tld_cons]
    unfold Up at hu
    split at hu
    · rename_i hc
      have ih := up_nm cs a h0 hu.2
      unfold puc
      rw [if_pos hc]
      cases e : tld cs with
      | nil => rw [Nm, if_neg (by simp)]; exact ⟨rfl, rfl, by omega, trivial⟩
      | cons x r =>
        obtain ⟨f, t, T⟩ := x
        rw [e] at ih
        by_cases hT : T = []
        · subst hT
          simp only [if_pos]
          rw [Nm, if_neg (by simp)]
          refine ⟨rfl, rfl, by omega, ?_⟩
          rw [Nm, if_pos rfl] at ih ⊢
          exact ⟨ih.1, fun h => by omega, ih.2.2⟩
        · simp only [if_neg hT]
          rw [Nm, if_neg hT] at ih
          rw [Nm, if_neg (by simp)]
          exact ⟨rfl, rfl, by omega, ih.2.2.2⟩
    · rename_i hc
      obtain ⟨u1, u2, u3, u4⟩ := hu
      have ih := up_nm cs (c.1 + 1) (by omega) u4
      unfold puc
      rw [if_neg hc]
      cases e : tld cs with
      | nil => rw [Nm, if_pos rfl]; exact ⟨u1, fun h => by omega, by omega, by omega, trivial⟩
      | cons x r =>
        obtain ⟨f, t, T⟩ := x
        rw [e] at ih
        by_cases hT : T = []
        · subst hT
          rw [Nm, if_pos rfl] at ih
          by_cases hf : f = c.1 + 1
          · subst hf
            simp only [true_and, if_pos]
            rw [Nm, if_pos rfl]
            exact ⟨u1, fun h => by omega, by omega, ih.2.2.2.1, ih.2.2.2.2⟩
          · simp only [true_and, if_neg hf]
            rw [Nm, if_pos rfl]
            refine ⟨u1, fun h => by omega, by omega, by omega, ?_⟩
            rw [Nm, if_pos rfl]
            exact ⟨ih.1, fun _ => by omega, ih.2.2⟩
        · simp only [hT, false_and, if_false]
          rw [Nm, if_pos rfl]
          refine ⟨u1, fun h => by omega, by omega, by omega, ?_⟩
          rw [Nm, if_neg hT] at ih ⊢
          exact ⟨ih.1, ih.2.1, by omega, ih.2.2.2⟩
/-- The first one, kept bytes going up, of the cells at places that go up. -/
theorem up_drop {base : Int} : ∀ (cs : List Ce) (a : Int) (n : Nat), Up base a cs → Up base a (cs.drop n)
  | cs, a, 0, h => h
  | [], _, n + 1, _ => trivial
  | c :: cs, a, n + 1, h => by
    show Up base a (cs.drop n)
    unfold Up at h
    split at h
    · exact up_drop cs a n h.2
    · exact up_mono _ a (c.1 + 1) (by omega) (up_drop cs (c.1 + 1) n h.2.2.2)
theorem up_two {base : Int} {A : List Ce} : ∀ (B : List Ce) (b : Nat) (a : Int), Up A.length b B → Up base a (A.drop b) → Up base a (twoC A B)
  | [], _, _, _, _ => trivial
  | c :: B, b, a, hB, hA => by
    unfold Up at hB
    show Up base a ((if c.1 < 0 then c else A.getD c.1.toNat (0, 0)) :: twoC A B)
    split at hB
    · rename_i hc
      rw [if_pos hc, Up, if_pos hc]
      exact ⟨hB.1, up_two B b a hB.2 hA⟩
    · rename_i hc
      obtain ⟨h1, h2, h3, h4⟩ := hB
      have hl : c.1.toNat < A.length := by omega
      have hA2 : Up base a (A.drop c.1.toNat) := by
        have := up_drop _ a (c.1.toNat - b) hA
        rw [List.drop_drop, show b + (c.1.toNat - b) = c.1.toNat by omega] at this
        exact this
      rw [List.drop_eq_getElem_cons hl] at hA2
      rw [if_neg hc, List.getD_eq_getElem?_getD, List.getElem?_eq_getElem hl]
      show Up base a (A[c.1.toNat] :: twoC A B)
      have hn : ((c.1.toNat + 1 : Nat) : Int) = c.1 + 1 := by omega
      unfold Up at hA2 ⊢
      split
      · rename_i hx
        rw [if_pos hx] at hA2
        exact ⟨hA2.1, up_two B (c.1.toNat + 1) a (by rw [hn]; exact h4) hA2.2⟩
      · rename_i hx
        rw [if_neg hx] at hA2
        exact ⟨hA2.1, hA2.2.1, hA2.2.2.1, up_two B (c.1.toNat + 1) _ (by rw [hn]; exact h4) hA2.2.2.2⟩
end Go.Proofs.YtmgjfmgkmlfjeaaDoor
