/- Deltas one behind the other: plain mathematics (layer 13; written ahead of its code). Texts of deltas one behind the other are valid, if they were cut at edges: plain mathematics (layer 13; written ahead of its code). The delta back: plain mathematics (layer 13; written ahead of its code). Deltas cut at edges, and back: plain mathematics (layer 13; written ahead of its code). The delta back of the delta back: plain mathematics (layer 13; written ahead of its code). Two deltas at once, by cells and by elements: plain mathematics (layer 13; written ahead of its code). -/
import Derived.Test.YtafhogfbjklboaaDoorDelHelp
import Derived.Test.YtafhogfbjklboaaDoorTxt
namespace Go.Proofs.YtafhogfbjklboaaDoor
set_option linter.unusedSimpArgs false
set_option linter.unusedVariables false

theorem getD_lt {α : Type} (l : List α) (k : Nat) (d : α) (h : k < l.length) : l.getD k d = l[k] := by
  rw [List.getD_eq_getElem?_getD, List.getElem?_eq_getElem h]; rfl
theorem getD_map {α β : Type} (g : α → β) (l : List α) (k : Nat) (d : β) (h : k < l.length) : (l.map g).getD k d = g l[k] := by
  rw [getD_lt _ _ _ (by simpa using h)]; simp
/-- What b makes of what a makes: the cells of both at once. -/
def twoC (A B : List Ce) : List Ce := B.map fun c => if c.1 < 0 then c else A.getD c.1.toNat (0, 0)
theorem twoC_nil (A : List Ce) : twoC A [] = [] := rfl
theorem twoC_append (A B C : List Ce) : twoC A (B ++ C) = twoC A B ++ twoC A C := by simp [twoC]
theorem twoC_len (A B : List Ce) : (twoC A B).length = B.length := by simp [twoC]
theorem twoC_own (A : List Ce) (T : List UInt8) : twoC A (ownT T) = ownT T := by
  simp only [twoC, ownT, List.map_map]
  refine List.map_congr_left fun b _ => ?_
  rfl
theorem twoC_rng {A : List Ce} {f t : Int} (h0 : 0 ≤ f) (h1 : f ≤ t) (h2 : t ≤ A.length) : twoC A (rng f t) = (A.drop f.toNat).take (t - f).toNat := by
  apply List.ext_getElem
  · simp [twoC_len, rng_len]; omega
  intro i a b
  have hi : i < (t - f).toNat := by simpa [twoC_len, rng_len] using a
  have e : (f + (i : Int)).toNat = f.toNat + i := by omega
  simp [twoC, rng, e, show ¬ f + (i : Int) < 0 by omega, List.getElem?_eq_getElem (show f.toNat + i < A.length by omega)]
/-- Bytes of a text of n bytes. -/
def InC (n : Nat) (B : List Ce) : Prop := ∀ c ∈ B, c.1 < 0 ∨ c.1 < n
/-- Two at once make what one makes behind the other. -/
theorem apl_two {A B : List Ce} {s : List UInt8} (h : InC A.length B) : apl (twoC A B) s = apl B (apl A s) := by
  simp only [apl, twoC, List.map_map]
  refine List.map_congr_left fun c hc => ?_
  simp only [Function.comp]
  by_cases h0 : c.1 < 0
  · simp [h0]
  · rcases h c hc with h1 | h1
    · exact absurd h1 h0
    have hl : c.1.toNat < A.length := by omega
    rw [if_neg h0, if_neg h0, getD_lt _ _ _ hl, getD_map _ _ _ _ hl]
theorem apl_len (A : List Ce) (s : List UInt8) : (apl A s).length = A.length := by simp [apl]
/-- Whichever two are put together first. -/
theorem two_assoc {A B C : List Ce} (hC : InC B.length C) : twoC A (twoC B C) = twoC (twoC A B) C := by
  simp only [twoC, List.map_map]
  refine List.map_congr_left fun c hc => ?_
  simp only [Function.comp]
  by_cases h0 : c.1 < 0
  · simp [h0]
  · rcases hC c hc with h1 | h1
    · exact absurd h1 h0
    have hl : c.1.toNat < B.length := by omega
    rw [if_neg h0, if_neg h0, getD_lt _ _ _ hl, getD_map _ _ _ _ hl]
/-- With one that keeps all. -/
theorem two_keepL {n : Nat} {B : List Ce} (h : InC n B) (hz : ∀ c ∈ B, 0 ≤ c.1 → c.2 = 0) : twoC (rng 0 n) B = B := by
  conv => rhs; rw [← List.map_id B]
  refine List.map_congr_left fun c hc => ?_
  by_cases h0 : c.1 < 0
  · rw [if_pos h0]; rfl
  · rcases h c hc with h1 | h1
    · exact absurd h1 h0
    have hr : (rng 0 n)[c.1.toNat]? = some (0 + (c.1.toNat : Int), 0) := by
      unfold rng
      rw [List.getElem?_map, List.getElem?_range (by omega)]
      rfl
    rw [if_neg h0, List.getD_eq_getElem?_getD, hr]
    obtain ⟨p, b⟩ := c
    have := hz (p, b) hc (by simp only at h0 ⊢; omega)
    simp only at this h0 ⊢
    subst this
    show ((0 + (p.toNat : Int), (0 : UInt8)) : Ce) = (p, 0)
    rw [show (0 : Int) + (p.toNat : Int) = p by omega]
theorem two_keepR (A : List Ce) : twoC A (rng 0 A.length) = A := by
  rw [twoC_rng (Int.le_refl _) (by omega) (Int.le_refl _)]
  simp
/-- One element more, behind the others: one with the last one, if both can be one. -/
def padd : List El → El → List El
  | [], e => [e]
  | [x], e => if x.2.2 = [] ∧ e.2.2 = [] ∧ x.2.1 = e.1 then [(x.1, e.2.1, [])] else if x.2.2 ≠ [] ∧ e.2.2 ≠ [] then [(x.1, x.2.1, x.2.2 ++ e.2.2)] else [x, e]
  | x :: y :: r, e => x :: padd (y :: r) e
theorem padd_ne (es : List El) (e : El) : padd es e ≠ [] := by
  match es with
  | [] => simp [padd]
  | [x] => simp only [padd]; split <;> (try split) <;> simp
  | x :: y :: r => simp [padd]
theorem padd_cons {es : List El} (h : es ≠ []) (x e : El) : padd (x :: es) e = x :: padd es e := by
  cases es with
  | nil => exact absurd rfl h
  | cons y r => rfl
/-- What an element must be. -/
def Gd1 (e : El) : Prop := (e.2.2 = [] ∧ 0 ≤ e.1 ∧ e.1 < e.2.1) ∨ (e.2.2 ≠ [] ∧ e.1 = 0 ∧ e.2.1 = 0)
theorem puc_one (c : Ce) {e : El} (h : Gd1 e) : puc c [e] = padd (puc c []) e := by
  obtain ⟨f, t, T⟩ := e
  unfold puc
  by_cases hc : c.1 < 0
  · simp only [if_pos hc]
    by_cases hT : T = []
    · subst hT; simp [padd]
    · simp [padd, hT]
  · simp only [if_neg hc]
    by_cases hT : T = []
    · subst hT
      by_cases hf : f = c.1 + 1
      · subst hf; simp [padd]
      · have : ¬ c.1 + 1 = f := fun e => hf e.symm
        simp [padd, hf, this]
    · simp [padd, hT]
theorem puc_two (c : Ce) (x : El) (es : List El) : ∃ p : List El, puc c (x :: es) = p ++ es ∧ p ≠ [] ∧ ∀ r, puc c (x :: r) = p ++ r := by
  obtain ⟨f, t, T⟩ := x
  unfold puc
  by_cases hc : c.1 < 0
  · simp only [if_pos hc]
    by_cases hT : T = []
    · exact ⟨[(0, 0, [c.2]), (f, t, T)], by simp [hT], by simp, fun r => by simp [hT]⟩
    · exact ⟨[(0, 0, c.2 :: T)], by simp [hT], by simp, fun r => by simp [hT]⟩
  · simp only [if_neg hc]
    by_cases hT : T = [] ∧ f = c.1 + 1
    · exact ⟨[(c.1, t, [])], by simp [hT], by simp, fun r => by simp [hT]⟩
    · exact ⟨[(c.1, c.1 + 1, []), (f, t, T)], by simp [hT], by simp, fun r => by simp [hT]⟩
theorem padd_append : ∀ (p es : List El) (e : El), es ≠ [] → padd (p ++ es) e = p ++ padd es e
  | [], es, e, _ => rfl
  | x :: p, es, e, h => by
    rw [List.cons_append, padd_cons (by simp [h]), padd_append p es e h, List.cons_append]
theorem puc_single (c : Ce) {x e : El} (hx : Gd1 x) (he : Gd1 e) : puc c (padd [x] e) = padd (puc c [x]) e := by
  obtain ⟨f, t, T⟩ := x
  obtain ⟨f', t', T'⟩ := e
  by_cases hc : c.1 < 0
  · by_cases hT : T = [] <;> by_cases hT' : T' = []
    · subst hT hT'
      by_cases ht : t = f' <;> simp [padd, puc, hc, ht]
    · subst hT
      simp [padd, puc, hc, hT']
    · subst hT'
      simp [padd, puc, hc, hT]
    · simp [padd, puc, hc, hT, hT']
  · by_cases hT : T = [] <;> by_cases hT' : T' = []
    · subst hT hT'
      by_cases ht : t = f' <;> by_cases hf : f = c.1 + 1 <;> simp [padd, puc, hc, ht, hf]
    · subst hT
      by_cases hf : f = c.1 + 1 <;> simp [padd, puc, hc, hT', hf]
    · subst hT'
      simp [padd, puc, hc, hT]
    · simp [padd, puc, hc, hT, hT']
/-- All elements are what they must be. -/
theorem puc_gd (c : Ce) {es : List El} (h : ∀ e ∈ es, Gd1 e) : ∀ e ∈ puc c es, Gd1 e := by
  intro e he
  unfold puc at he
  split at he
  · rename_i hc
    split at he
    · rename_i f t T r
      split at he
      · rcases List.mem_cons.1 he with rfl | he
        · exact Or.inr ⟨by simp, rfl, rfl⟩
        · exact h e he
      · rename_i hT
        rcases List.mem_cons.1 he with rfl | he
        · exact Or.inr ⟨by simp, rfl, rfl⟩
        · exact h e (by simp [he])
    · simp only [List.mem_singleton] at he
      subst he
      exact Or.inr ⟨by simp, rfl, rfl⟩
  · rename_i hc
    split at he
    · rename_i f t T r
      split at he
      · rename_i hT
        have hx := h (f, t, T) (by simp)
        rcases List.mem_cons.1 he with rfl | he
        · rcases hx with hx | hx
          · simp only at hx
            exact Or.inl ⟨rfl, by simp only; omega, by simp only; omega⟩
          · exact absurd hT.1 hx.1
        · exact h e (by simp [he])
      · rcases List.mem_cons.1 he with rfl | he
        · exact Or.inl ⟨rfl, by simp only; omega, by simp only; omega⟩
        · exact h e he
    · simp only [List.mem_singleton] at he
      subst he
      exact Or.inl ⟨rfl, by simp only; omega, by simp only; omega⟩
theorem tld_gd : ∀ (l : List Ce), ∀ e ∈ tld l, Gd1 e
  | [], e, he => by cases he
  | c :: l, e, he => puc_gd c (tld_gd l) e he
theorem puc_padd (c : Ce) {es : List El} {e : El} (h : ∀ x ∈ es, Gd1 x) (he : Gd1 e) : puc c (padd es e) = padd (puc c es) e := by
  match es with
  | [] => exact puc_one c he
  | [x] => exact puc_single c (h x (by simp)) he
  | x :: y :: r =>
    obtain ⟨p, h1, h2, h3⟩ := puc_two c x (y :: r)
    rw [padd_cons (by simp), h3, h1, padd_append p (y :: r) e (by simp)]
/-- THE LEAST ELEMENTS of bytes with a piece behind them. -/
theorem tld_padd {e : El} (he : Gd1 e) : ∀ (l : List Ce), tld (l ++ ce1 e) = padd (tld l) e
  | [] => by
    obtain ⟨f, t, T⟩ := e
    show tld (ownT T ++ rng f t) = [(f, t, T)]
    rcases he with ⟨h1, h2, h3⟩ | ⟨h1, h2, h3⟩
    · simp only at h1 h2 h3
      subst h1
      have := tld_rng (t - f).toNat f t [] rfl h2 h3 (fun e r h => by cases h)
      rw [List.append_nil] at this
      exact this
    · simp only at h1 h2 h3
      subst h2 h3
      rw [rng_none (Int.le_refl _), tld_own T [] h1 (fun e r h => by cases h)]
      rfl
  | c :: l => by
    show puc c (tld (l ++ ce1 e)) = padd (puc c (tld l)) e
    rw [tld_padd he l, puc_padd c (tld_gd l) he]
theorem tld_elems {es : List El} (h : ∀ e ∈ es, Gd1 e) (l : List Ce) : tld (l ++ cel es) = es.foldl padd (tld l) := by
  induction es generalizing l with
  | nil => simp [cel]
  | cons e es ih =>
    rw [cel_cons, ← List.append_assoc, ih (fun x hx => h x (by simp [hx])), tld_padd (h e (by simp))]
    rfl
theorem nm_gd {base : Int} : ∀ (es : List El) (last : Int) (k : Nat), 0 ≤ last → Nm base last k es → ∀ e ∈ es, Gd1 e
  | [], _, _, _, _, e, he => by cases he
  | (f, t, T) :: es, last, k, h0, h, e, he => by
    by_cases hT : T = []
    · subst hT
      rw [Nm, if_pos rfl] at h
      rcases List.mem_cons.1 he with rfl | he
      · exact Or.inl ⟨rfl, by simp only; omega, h.2.2.1⟩
      · exact nm_gd es t 2 (by omega) h.2.2.2.2 e he
    · rw [Nm, if_neg hT] at h
      rcases List.mem_cons.1 he with rfl | he
      · exact Or.inr ⟨hT, h.1, h.2.1⟩
      · exact nm_gd es last 1 h0 h.2.2.2 e he
/-- Bytes of which the kept ones go up, from a on, below base. -/
def Up (base : Int) : Int → List Ce → Prop
  | _, [] => True
  | a, c :: cs => if c.1 < 0 then c.1 = -1 ∧ Up base a cs else a ≤ c.1 ∧ c.1 < base ∧ c.2 = 0 ∧ Up base (c.1 + 1) cs
theorem up_mono {base : Int} : ∀ (cs : List Ce) (a b : Int), a ≤ b → Up base b cs → Up base a cs
  | [], _, _, _, _ => trivial
  | c :: cs, a, b, h, hu => by
    unfold Up at hu ⊢
    split
    · rename_i hc; rw [if_pos hc] at hu; exact ⟨hu.1, up_mono cs a b h hu.2⟩
    · rename_i hc; rw [if_neg hc] at hu; exact ⟨by omega, hu.2⟩
theorem up_own {base a : Int} : ∀ (T : List UInt8) {cs : List Ce}, Up base a cs → Up base a (ownT T ++ cs)
  | [], cs, h => h
  | b :: T, cs, h => by
    show Up base a ((-1, b) :: (ownT T ++ cs))
    rw [Up, if_pos (by simp only; omega)]
    exact ⟨rfl, up_own T h⟩
theorem up_rng {base : Int} {cs : List Ce} {t : Int} (h : Up base t cs) : ∀ (n : Nat) (f a : Int), (t - f).toNat = n → a ≤ f → 0 ≤ f → f ≤ t → t ≤ base → Up base a (rng f t ++ cs)
  | 0, f, a, hn, ha, _, h1, _ => by
    have : f = t := by omega
    subst this
    rw [rng_none (Int.le_refl _)]; exact up_mono cs a f ha h
  | n + 1, f, a, hn, ha, h0, h1, hb => by
    rw [rng_cons (by omega)]
    show Up base a ((f, 0) :: (rng (f + 1) t ++ cs))
    rw [Up, if_neg (by simp only; omega)]
    exact ⟨ha, by simp only; omega, rfl, up_rng h n (f + 1) (f + 1) (by omega) (Int.le_refl _) (by omega) (by omega) hb⟩
theorem up_cel {base : Int} : ∀ (es : List El) (last : Int) (k : Nat), 0 ≤ last → Nm base last k es → Up base last (cel es)
  | [], _, _, _, _ => trivial
  | (f, t, T) :: es, last, k, h0, h => by
    rw [cel_cons, show ce1 (f, t, T) = ownT T ++ rng f t from rfl]
    by_cases hT : T = []
    · subst hT
      rw [Nm, if_pos rfl] at h
      exact up_rng (up_cel es t 2 (by omega) h.2.2.2.2) _ f last rfl h.1 (by omega) (by omega) h.2.2.2.1
    · rw [Nm, if_neg hT] at h
      rw [h.1, h.2.1, rng_none (Int.le_refl _), List.append_nil]
      exact up_own T (up_cel es last 1 h0 h.2.2.2)
/-- Bytes that go up are told by elements that stand as they may. -/
theorem nm_k {base last : Int} {es : List El} {k : Nat} (h : Nm base last k es) (q : Nat) (h1 : q = 1 → NoTx es) (h2 : q = 2 → ∀ e r, es = e :: r → e.2.2 = [] → last < e.1) : Nm base last q es := by
  cases es with
  | nil => trivial
  | cons e es =>
    obtain ⟨f, t, T⟩ := e
    by_cases hT : T = []
    · subst hT
      rw [Nm, if_pos rfl] at h ⊢
      exact ⟨h.1, fun e => h2 e _ _ rfl rfl, h.2.2⟩
    · rw [Nm, if_neg hT] at h ⊢
      exact ⟨h.1, h.2.1, fun e => hT (h1 e _ _ rfl), h.2.2.2⟩
theorem up_nm {base : Int} : ∀ (cs : List Ce) (a : Int), 0 ≤ a → Up base a cs → Nm base a 0 (tld cs)
  | [], _, _, _ => trivial
  | c :: cs, a, h0, hu => by
    rw [tld_cons]
    unfold Up at hu
    split at hu
    · rename_i hc
      have ih := up_nm cs a h0 hu.2
      unfold puc
      rw [if_pos hc]
      cases e : tld cs with
      | nil => rw [Nm, if_neg (by simp)]; exact ⟨rfl, rfl, by omega, trivial⟩
      | cons x r =>
        obtain ⟨f, t, T⟩ := x
        rw [e] at ih
        by_cases hT : T = []
        · subst hT
          simp only [if_pos]
          rw [Nm, if_neg (by simp)]
          refine ⟨rfl, rfl, by omega, ?_⟩
          rw [Nm, if_pos rfl] at ih ⊢
          exact ⟨ih.1, fun h => by omega, ih.2.2⟩
        · simp only [if_neg hT]
          rw [Nm, if_neg hT] at ih
          rw [Nm, if_neg (by simp)]
          exact ⟨rfl, rfl, by omega, ih.2.2.2⟩
    · rename_i hc
      obtain ⟨u1, u2, u3, u4⟩ := hu
      have ih := up_nm cs (c.1 + 1) (by omega) u4
      unfold puc
      rw [if_neg hc]
      cases e : tld cs with
      | nil => rw [Nm, if_pos rfl]; exact ⟨u1, fun h => by omega, by omega, by omega, trivial⟩
      | cons x r =>
        obtain ⟨f, t, T⟩ := x
        rw [e] at ih
        by_cases hT : T = []
        · subst hT
          rw [Nm, if_pos rfl] at ih
          by_cases hf : f = c.1 + 1
          · subst hf
            simp only [true_and, if_pos]
            rw [Nm, if_pos rfl]
            exact ⟨u1, fun h => by omega, by omega, ih.2.2.2.1, ih.2.2.2.2⟩
          · simp only [true_and, if_neg hf]
            rw [Nm, if_pos rfl]
            refine ⟨u1, fun h => by omega, by omega, by omega, ?_⟩
            rw [Nm, if_pos rfl]
            exact ⟨ih.1, fun _ => by omega, ih.2.2⟩
        · simp only [hT, false_and, if_false]
          rw [Nm, if_pos rfl]
          refine ⟨u1, fun h => by omega, by omega, by omega, ?_⟩
          rw [Nm, if_neg hT] at ih ⊢
          exact ⟨ih.1, ih.2.1, by omega, ih.2.2.2⟩
/-- The first one, kept bytes going up, of the cells at places that go up. -/
theorem up_drop {base : Int} : ∀ (cs : List Ce) (a : Int) (n : Nat), Up base a cs → Up base a (cs.drop n)
  | cs, a, 0, h => h
  | [], _, n + 1, _ => trivial
  | c :: cs, a, n + 1, h => by
    show Up base a (cs.drop n)
    unfold Up at h
    split at h
    · exact up_drop cs a n h.2
    · exact up_mono _ a (c.1 + 1) (by omega) (up_drop cs (c.1 + 1) n h.2.2.2)
theorem up_two {base : Int} {A : List Ce} : ∀ (B : List Ce) (b : Nat) (a : Int), Up A.length b B → Up base a (A.drop b) → Up base a (twoC A B)
  | [], _, _, _, _ => trivial
  | c :: B, b, a, hB, hA => by
    unfold Up at hB
    show Up base a ((if c.1 < 0 then c else A.getD c.1.toNat (0, 0)) :: twoC A B)
    split at hB
    · rename_i hc
      rw [if_pos hc, Up, if_pos hc]
      exact ⟨hB.1, up_two B b a hB.2 hA⟩
    · rename_i hc
      obtain ⟨h1, h2, h3, h4⟩ := hB
      have hl : c.1.toNat < A.length := by omega
      have hA2 : Up base a (A.drop c.1.toNat) := by
        have := up_drop _ a (c.1.toNat - b) hA
        rw [List.drop_drop, show b + (c.1.toNat - b) = c.1.toNat by omega] at this
        exact this
      rw [List.drop_eq_getElem_cons hl] at hA2
      rw [if_neg hc, List.getD_eq_getElem?_getD, List.getElem?_eq_getElem hl]
      show Up base a (A[c.1.toNat] :: twoC A B)
      have hn : ((c.1.toNat + 1 : Nat) : Int) = c.1 + 1 := by omega
      unfold Up at hA2 ⊢
      split
      · rename_i hx
        rw [if_pos hx] at hA2
        exact ⟨hA2.1, up_two B (c.1.toNat + 1) a (by rw [hn]; exact h4) hA2.2⟩
      · rename_i hx
        rw [if_neg hx] at hA2
        exact ⟨hA2.1, hA2.2.1, hA2.2.2.1, up_two B (c.1.toNat + 1) _ (by rw [hn]; exact h4) hA2.2.2.2⟩
end Go.Proofs.YtafhogfbjklboaaDoor
namespace Go.Proofs.YtafhogfbjklboaaDoor
set_option linter.unusedSimpArgs false
set_option linter.unusedVariables false

theorem vld_app {a : List UInt8} (ha : vld a = true) (b : List UInt8) : vld (a ++ b) = vld b := by
  obtain ⟨cs, hg, rfl⟩ := (vld_iff a).1 ha
  exact vld_flat_append hg b
/-- A place in a valid text is between code points or within one. -/
theorem flat_at : ∀ (cs : List Int) (k : Nat), k ≤ (flat cs).length → (∃ c1 c2, cs = c1 ++ c2 ∧ (flat c1).length = k) ∨ (∃ c1 c c2 j, cs = c1 ++ c :: c2 ∧ 0 < j ∧ j < (enc c).length ∧ k = (flat c1).length + j)
  | cs, 0, _ => Or.inl ⟨[], cs, rfl, rfl⟩
  | [], k + 1, h => by simp [flat] at h
  | c :: cs, k + 1, h => by
    rw [flat_cons, List.length_append] at h
    by_cases h1 : k + 1 < (enc c).length
    · exact Or.inr ⟨[], c, cs, k + 1, rfl, by omega, h1, by simp [flat]⟩
    · rcases flat_at cs (k + 1 - (enc c).length) (by omega) with ⟨c1, c2, e, e1⟩ | ⟨c1, d, c2, j, e, e1, e2, e3⟩
      · exact Or.inl ⟨c :: c1, c2, by rw [e]; rfl, by rw [flat_cons, List.length_append]; omega⟩
      · exact Or.inr ⟨c :: c1, d, c2, j, by rw [e]; rfl, e1, e2, by rw [flat_cons, List.length_append]; omega⟩
/-- At an edge both parts are valid. -/
theorem edge_cut {s : ByteArray} {k : Nat} (h : edg s (k : Int) = true) : k ≤ s.size ∧ vld (s.data.toList.take k) = true ∧ vld (s.data.toList.drop k) = true := by
  obtain ⟨h1, h2⟩ := edg_le s k h (by omega)
  obtain ⟨cs, hg, e⟩ := (vld_iff _).1 h2
  have hk : k ≤ (flat cs).length := by rw [← e, bytes_length]; omega
  refine ⟨by omega, ?_⟩
  rcases flat_at cs k hk with ⟨c1, c2, e1, e2⟩ | ⟨c1, c, c2, j, e1, e2, e3, e4⟩
  · subst e1
    have hf : flat (c1 ++ c2) = flat c1 ++ flat c2 := by simp [flat]
    rw [e, hf, ← e2, List.take_left' rfl, List.drop_left' rfl]
    exact ⟨vld_flat fun c hc => hg c (by simp [hc]), vld_flat fun c hc => hg c (by simp [hc])⟩
  · subst e1
    have hf : flat (c1 ++ c :: c2) = flat c1 ++ flat (c :: c2) := by simp [flat]
    rw [hf] at e
    have := edge_within e (hg c (by simp)) j e2 e3
    rw [← e4, h] at this
    cases this
/-- The bytes that an element makes. -/
def pb (s : List UInt8) (e : El) : List UInt8 := e.2.2 ++ (s.drop e.1.toNat).take (e.2.1 - e.1).toNat
/-- An element of valid bytes. -/
structure Ok1 (s : List UInt8) (e : El) : Prop where
  gd : Gd1 e
  le : e.2.1 ≤ s.length
  vl : vld (pb s e) = true
theorem Ok1.vt {s : List UInt8} {e : El} (h : Ok1 s e) : vld e.2.2 = true := by
  have hv := h.vl
  rcases h.gd with ⟨h1, _, _⟩ | ⟨_, h2, h3⟩
  · rw [h1]; exact vld_nil
  · unfold pb at hv
    rw [h2, h3] at hv
    simpa using hv
theorem ok1_ce {s : List UInt8} {e : El} (h : Ok1 s e) : apl (ce1 e) s = pb s e ∧ (ce1 e).length = (pb s e).length := by
  obtain ⟨f, t, T⟩ := e
  have hl := h.le
  have e1 : apl (ce1 (f, t, T)) s = pb s (f, t, T) := by
    show apl (ownT T ++ rng f t) s = T ++ (s.drop f.toNat).take (t - f).toNat
    rw [apl_append, apl_own]
    rcases h.gd with ⟨h1, h2, h3⟩ | ⟨_, h2, h3⟩
    · simp only at h2 h3 hl
      rw [apl_rng h2 (by omega) hl]
    · simp only at h2 h3
      subst h2 h3
      rw [rng_none (Int.le_refl _)]
      simp [apl]
  exact ⟨e1, by rw [← e1, apl]; simp⟩
theorem ok1_text {s T : List UInt8} (hT : T ≠ []) (hv : vld T = true) : Ok1 s (0, 0, T) := ⟨Or.inr ⟨hT, rfl, rfl⟩, by simp, by simpa [pb] using hv⟩
theorem ok1_copy {s : List UInt8} {f t : Int} (h0 : 0 ≤ f) (h1 : f < t) (h2 : t ≤ s.length) (hv : vld ((s.drop f.toNat).take (t - f).toNat) = true) : Ok1 s (f, t, []) := ⟨Or.inl ⟨rfl, h0, h1⟩, h2, by simpa [pb] using hv⟩
/-- Elements of valid bytes, cut where what is ahead is valid. -/
theorem ok1_cut {s : List UInt8} : ∀ (es : List El) (n : Nat), (∀ e ∈ es, Ok1 s e) → n ≤ (cel es).length → vld ((apl (cel es) s).take n) = true →
    ∃ e1 e2, cel es = cel e1 ++ cel e2 ∧ (cel e1).length = n ∧ (∀ e ∈ e1, Ok1 s e) ∧ (∀ e ∈ e2, Ok1 s e) ∧ e1.length ≤ es.length ∧ e1.length + e2.length ≤ es.length + 1
  | es, 0, h, _, _ => ⟨[], es, rfl, rfl, fun e he => (by cases he), h, by simp, by simp⟩
  | [], n + 1, _, hn, _ => by simp [cel] at hn
  | e :: es, n + 1, h, hn, hv => by
    have he := h e (by simp)
    obtain ⟨a1, a2⟩ := ok1_ce he
    rw [cel_cons, List.length_append] at hn
    rw [cel_cons, apl_append, a1] at hv
    by_cases hc : (ce1 e).length ≤ n + 1
    · have hv2 : vld ((apl (cel es) s).take (n + 1 - (ce1 e).length)) = true := by
        rw [List.take_append, List.take_of_length_le (by omega), vld_app he.vl, ← a2] at hv
        exact hv
      obtain ⟨e1, e2, b1, b2, b3, b4, b5, b6⟩ := ok1_cut es (n + 1 - (ce1 e).length) (fun x hx => h x (by simp [hx])) (by omega) hv2
      refine ⟨e :: e1, e2, by rw [cel_cons, cel_cons, b1, List.append_assoc], by rw [cel_cons, List.length_append]; omega, ?_, b4, by simp; omega, by simp; omega⟩
      intro x hx
      rcases List.mem_cons.1 hx with rfl | hx
      · exact he
      · exact b3 x hx
    · obtain ⟨f, t, T⟩ := e
      have hrest : ∀ x ∈ es, Ok1 s x := fun x hx => h x (by simp [hx])
      rw [List.take_append_of_le_length (by omega)] at hv
      have hle := he.le
      simp only at hle
      rcases he.gd with ⟨h1, h2, h3⟩ | ⟨h1, h2, h3⟩
      · simp only at h1 h2 h3
        subst h1
        have hcl : (ce1 (f, t, [])).length = (t - f).toNat := by show (ownT [] ++ rng f t).length = _; simp [ownT, rng_len]
        rw [hcl] at hc
        have hp : pb s (f, t, []) = (s.drop f.toNat).take (t - f).toNat := by simp [pb]
        have hfull := he.vl
        rw [hp] at hv hfull
        have hsp : (s.drop f.toNat).take (t - f).toNat = (s.drop f.toNat).take (n + 1) ++ (s.drop (f + ((n + 1 : Nat) : Int)).toNat).take (t - (f + ((n + 1 : Nat) : Int))).toNat := by
          rw [show (t - f).toNat = (n + 1) + (t - (f + ((n + 1 : Nat) : Int))).toNat by omega, List.take_add, List.drop_drop, show f.toNat + (n + 1) = (f + ((n + 1 : Nat) : Int)).toNat by omega]
        rw [List.take_take, Nat.min_eq_left (by omega)] at hv
        rw [hsp, vld_app hv] at hfull
        refine ⟨[(f, f + ((n + 1 : Nat) : Int), [])], (f + ((n + 1 : Nat) : Int), t, []) :: es, ?_, ?_, ?_, ?_, by simp, by simp; omega⟩
        · rw [cel_cons, cel_cons, cel_cons, show ce1 (f, t, []) = rng f t from rfl, rng_split (m := f + ((n + 1 : Nat) : Int)) (by omega) (by omega)]
          simp [cel, ce1, ownT]
        · simp [cel, ce1, ownT, rng_len]; omega
        · intro x hx
          simp only [List.mem_singleton] at hx
          subst hx
          refine ok1_copy h2 (by omega) (by omega) ?_
          rw [show (f + ((n + 1 : Nat) : Int) - f).toNat = n + 1 by omega]; exact hv
        · intro x hx
          rcases List.mem_cons.1 hx with rfl | hx
          · exact ok1_copy (by omega) (by omega) hle hfull
          · exact hrest x hx
      · simp only at h1 h2 h3
        subst h2 h3
        have hcl : (ce1 ((0 : Int), (0 : Int), T)).length = T.length := by show (ownT T ++ rng 0 0).length = _; simp [own_len, rng_len]
        rw [hcl] at hc
        have hp : pb s (0, 0, T) = T := by simp [pb]
        have hfull := he.vl
        rw [hp] at hv hfull
        have hd : vld (T.drop (n + 1)) = true := by
          rw [← List.take_append_drop (n + 1) T, vld_app hv] at hfull
          exact hfull
        refine ⟨[(0, 0, T.take (n + 1))], (0, 0, T.drop (n + 1)) :: es, ?_, ?_, ?_, ?_, by simp, by simp; omega⟩
        · rw [cel_cons, cel_cons, cel_cons, show ce1 ((0 : Int), (0 : Int), T) = ownT T ++ rng 0 0 from rfl]
          have e1 : ownT T = ownT (T.take (n + 1)) ++ ownT (T.drop (n + 1)) := by
            conv => lhs; rw [← List.take_append_drop (n + 1) T]
            simp [ownT]
          rw [e1]
          simp [cel, ce1, rng_none]
        · simp [cel, ce1, own_len, rng_len]; omega
        · intro x hx
          simp only [List.mem_singleton] at hx
          subst hx
          exact ok1_text (by
            intro e
            have h9 : (T.take (n + 1)).length = n + 1 := by rw [List.length_take]; omega
            rw [e] at h9
            simp at h9) hv
        · intro x hx
          rcases List.mem_cons.1 hx with rfl | hx
          · exact ok1_text (by intro e; have := congrArg List.length e; simp at this; omega) hd
          · exact hrest x hx
theorem padd_ok1 {s : List UInt8} {e : El} (he : Ok1 s e) : ∀ (es : List El), (∀ x ∈ es, Ok1 s x) → ∀ x ∈ padd es e, Ok1 s x
  | [], _, x, hx => by
    simp only [padd, List.mem_singleton] at hx
    subst hx; exact he
  | [y], h, x, hx => by
    have hy := h y (by simp)
    simp only [padd] at hx
    split at hx
    · rename_i hm
      obtain ⟨m1, m2, m3⟩ := hm
      simp only [List.mem_singleton] at hx
      subst hx
      obtain ⟨f, t, T⟩ := y
      obtain ⟨f', t', T'⟩ := e
      simp only at m1 m2 m3
      subst m1 m2 m3
      have g1 := hy.gd
      have g2 := he.gd
      have v1 := hy.vl
      have v2 := he.vl
      have l2 := he.le
      simp only at l2
      rcases g1 with ⟨_, a2, a3⟩ | ⟨a1, _, _⟩
      · rcases g2 with ⟨_, b2, b3⟩ | ⟨b1, _, _⟩
        · simp only at a2 a3 b2 b3
          show Ok1 s (f, t', [])
          refine ok1_copy a2 (by omega) l2 ?_
          unfold pb at v1 v2
          simp only [List.nil_append] at v1 v2
          rw [show (t' - f).toNat = (t - f).toNat + (t' - t).toNat by omega, List.take_add, List.drop_drop, show f.toNat + (t - f).toNat = t.toNat by omega, vld_app v1]
          exact v2
        · exact absurd rfl b1
      · exact absurd rfl a1
    · split at hx
      · rename_i hm
        simp only [List.mem_singleton] at hx
        subst hx
        obtain ⟨f, t, T⟩ := y
        obtain ⟨f', t', T'⟩ := e
        simp only at hm
        rcases hy.gd with ⟨a1, _, _⟩ | ⟨a1, a2, a3⟩
        · exact absurd a1 hm.1
        · simp only at a2 a3
          subst a2 a3
          refine ok1_text (by simp [hm.1]) ?_
          rw [vld_app hy.vt]; exact he.vt
      · rcases List.mem_cons.1 hx with rfl | hx
        · exact hy
        · simp only [List.mem_singleton] at hx
          subst hx; exact he
  | y :: z :: r, h, x, hx => by
    simp only [padd] at hx
    rcases List.mem_cons.1 hx with rfl | hx
    · exact h x (by simp)
    · exact padd_ok1 he (z :: r) (fun q hq => h q (by simp at hq ⊢; exact Or.inr hq)) x hx
theorem padd_len : ∀ (es : List El) (e : El), (padd es e).length ≤ es.length + 1
  | [], e => by simp [padd]
  | [x], e => by simp only [padd]; split <;> (try split) <;> simp
  | x :: y :: r, e => by have := padd_len (y :: r) e; simp only [padd, List.length_cons] at this ⊢; omega
theorem foldl_ok1 {s : List UInt8} : ∀ (es acc : List El), (∀ x ∈ es, Ok1 s x) → (∀ x ∈ acc, Ok1 s x) → (∀ x ∈ es.foldl padd acc, Ok1 s x) ∧ (es.foldl padd acc).length ≤ acc.length + es.length
  | [], acc, _, h => ⟨h, by simp⟩
  | e :: es, acc, h1, h2 => by
    have h3 := foldl_ok1 es (padd acc e) (fun x hx => h1 x (by simp [hx])) (padd_ok1 (h1 e (by simp)) acc h2)
    refine ⟨h3.1, ?_⟩
    have := padd_len acc e
    have := h3.2
    simp only [List.foldl_cons, List.length_cons]
    omega
/-- A text put in at edges: what was made of valid pieces is so again. -/
theorem two_ok1 {s : List UInt8} {es : List El} {p q : Nat} {T : List UInt8} (h : ∀ e ∈ es, Ok1 s e) (hpq : p ≤ q) (hq : q ≤ (cel es).length) (vp : vld ((apl (cel es) s).take p) = true) (vq : vld ((apl (cel es) s).take q) = true) (hT : vld T = true) :
    (∀ x ∈ tld ((cel es).take p ++ (ownT T ++ (cel es).drop q)), Ok1 s x) ∧ (tld ((cel es).take p ++ (ownT T ++ (cel es).drop q))).length ≤ es.length + 2 := by
  obtain ⟨c1, b2, e1, e2, e3, e4, e5, e6⟩ := ok1_cut es q h hq vq
  have vp2 : vld ((apl (cel c1) s).take p) = true := by
    rw [e1, apl_append, List.take_append_of_le_length (by simp [apl]; omega)] at vp
    exact vp
  obtain ⟨a1, a2, g1, g2, g3, g4, g5, g6⟩ := ok1_cut c1 p e3 (by omega) vp2
  have ht : (cel es).take p = cel a1 := by rw [e1, g1, List.append_assoc, List.take_left' g2]
  have hd : (cel es).drop q = cel b2 := by rw [e1, List.drop_left' e2]
  have hc : (cel es).take p ++ (ownT T ++ (cel es).drop q) = [] ++ cel (a1 ++ (tx T ++ b2)) := by
    rw [ht, hd, cel_append, cel_append, cel_tx]; rfl
  have hok : ∀ x ∈ a1 ++ (tx T ++ b2), Ok1 s x := by
    intro x hx
    rcases List.mem_append.1 hx with hx | hx
    · exact g3 x hx
    · rcases List.mem_append.1 hx with hx | hx
      · unfold tx at hx
        split at hx
        · cases hx
        · rename_i hne
          simp only [List.mem_singleton] at hx
          subst hx
          exact ok1_text hne hT
      · exact e4 x hx
  rw [hc, tld_elems (fun x hx => (hok x hx).gd)]
  have h5 := foldl_ok1 (s := s) (a1 ++ (tx T ++ b2)) (tld []) hok (fun x hx => by cases hx)
  refine ⟨h5.1, ?_⟩
  have h6 := h5.2
  have h7 : (tx T).length ≤ 1 := by unfold tx; split <;> simp
  simp only [List.length_append] at h6
  have h8 : (tld ([] : List Ce)).length = 0 := rfl
  omega
end Go.Proofs.YtafhogfbjklboaaDoor
namespace Go.Proofs.YtafhogfbjklboaaDoor
set_option linter.unusedSimpArgs false
set_option linter.unusedVariables false

/-- The bytes of the delta back: of what cs makes (i of it are gone through) the text s again (a of it). -/
def invC (s : List UInt8) : Nat → Nat → List Ce → List Ce
  | a, _, [] => ownT (s.drop a)
  | a, i, c :: cs => if c.1 < 0 then invC s a (i + 1) cs else ownT ((s.drop a).take (c.1.toNat - a)) ++ ((i : Int), 0) :: invC s (c.1.toNat + 1) (i + 1) cs
/-- The delta back makes the text again. -/
theorem apl_inv {s t full : List UInt8} (hfull : full = s) : ∀ (cs : List Ce) (a i : Nat), Up s.length a cs → t.drop i = apl cs s → apl (invC s a i cs) t = s.drop a
  | [], a, i, _, _ => by rw [invC, apl_own]
  | c :: cs, a, i, hu, ht => by
    have hi : t.drop (i + 1) = apl cs s := by
      rw [← List.drop_drop, ht]; rfl
    unfold Up at hu
    rw [invC]
    split at hu
    · rename_i hc
      rw [if_pos hc]
      exact apl_inv hfull cs a (i + 1) hu.2 hi
    · rename_i hc
      obtain ⟨u1, u2, u3, u4⟩ := hu
      rw [if_neg hc, apl_append, apl_own]
      have hg : t.getD i 0 = s.getD c.1.toNat 0 := by
        have h0 : t[i]? = (t.drop i)[0]? := by rw [List.getElem?_drop]; rfl
        rw [List.getD_eq_getElem?_getD, h0, ht]
        show (some (if c.1 < 0 then c.2 else s.getD c.1.toNat 0)).getD 0 = _
        rw [if_neg hc]; rfl
      have hl : c.1.toNat < s.length := by omega
      have ih := apl_inv (t := t) hfull cs (c.1.toNat + 1) (i + 1) (by rw [show ((c.1.toNat + 1 : Nat) : Int) = c.1 + 1 by omega]; exact u4) hi
      have e : apl (((i : Int), 0) :: invC s (c.1.toNat + 1) (i + 1) cs) t = t.getD i 0 :: apl (invC s (c.1.toNat + 1) (i + 1) cs) t := by
        show (if ((i : Int) < 0) then (0 : UInt8) else t.getD ((i : Int)).toNat 0) :: _ = _
        rw [if_neg (by omega), Int.toNat_natCast]; rfl
      rw [e, ih, hg, getD_lt _ _ _ hl, ← List.drop_eq_getElem_cons hl]
      have h5 : s.drop c.1.toNat = (s.drop a).drop (c.1.toNat - a) := by rw [List.drop_drop]; congr 1; omega
      rw [h5, List.take_append_drop]
theorem inv_up {s : List UInt8} : ∀ (cs : List Ce) (a i : Nat) (b : Int), Up s.length a cs → b ≤ i → Up ((i : Int) + cs.length) b (invC s a i cs)
  | [], a, i, b, _, _ => by
    rw [invC]
    have := up_own (base := (i : Int) + (([] : List Ce).length : Nat)) (a := b) (s.drop a) (cs := []) trivial
    rw [List.append_nil] at this
    exact this
  | c :: cs, a, i, b, hu, hb => by
    unfold Up at hu
    rw [invC]
    have hl : (i : Int) + ((c :: cs).length : Nat) = ((i + 1 : Nat) : Int) + (cs.length : Nat) := by simp; omega
    rw [hl]
    split at hu
    · rename_i hc
      rw [if_pos hc]
      exact inv_up cs a (i + 1) b hu.2 (by omega)
    · rename_i hc
      obtain ⟨u1, u2, u3, u4⟩ := hu
      rw [if_neg hc]
      refine up_own _ ?_
      rw [Up, if_neg (by simp only; omega)]
      refine ⟨by simp only; omega, by simp only; omega, rfl, ?_⟩
      have := inv_up cs (c.1.toNat + 1) (i + 1) ((i : Int) + 1) (by rw [show ((c.1.toNat + 1 : Nat) : Int) = c.1 + 1 by omega]; exact u4) (by omega)
      exact this
/-- How many are put in, how many are kept. -/
def ownN (cs : List Ce) : Nat := (cs.filter fun c => decide (c.1 < 0)).length
theorem ownN_append (a b : List Ce) : ownN (a ++ b) = ownN a + ownN b := by simp [ownN]
theorem ownN_own (T : List UInt8) : ownN (ownT T) = T.length := by
  unfold ownN
  rw [List.filter_eq_self.2, own_len]
  intro c hc
  simp only [ownT, List.mem_map] at hc
  obtain ⟨b, _, rfl⟩ := hc
  rfl
theorem ownN_le (cs : List Ce) : ownN cs ≤ cs.length := List.length_filter_le _ _
theorem ownN_rng {f t : Int} (h : 0 ≤ f) : ownN (rng f t) = 0 := by
  unfold ownN
  rw [List.filter_eq_nil_iff.2]; · rfl
  intro c hc
  simp only [rng, List.mem_map, List.mem_range] at hc
  obtain ⟨i, hi, rfl⟩ := hc
  simp
  omega
theorem ownN_cel {base : Int} : ∀ (es : List El) (last : Int) (k : Nat), 0 ≤ last → Nm base last k es → ownN (cel es) = inS es
  | [], _, _, _, _ => rfl
  | (f, t, T) :: es, last, k, h0, h => by
    rw [cel_cons, ownN_append, show ce1 (f, t, T) = ownT T ++ rng f t from rfl, ownN_append, ownN_own]
    by_cases hT : T = []
    · subst hT
      rw [Nm, if_pos rfl] at h
      rw [ownN_rng (by omega), ownN_cel es t 2 (by omega) h.2.2.2.2]
      simp [inS]
    · rw [Nm, if_neg hT] at h
      rw [h.1, h.2.1, rng_none (Int.le_refl _), ownN_cel es last 1 h0 h.2.2.2]
      simp [inS, ownN]
theorem inv_own {s : List UInt8} : ∀ (cs : List Ce) (a i : Nat), Up s.length a cs → a ≤ s.length → ownN (invC s a i cs) + (cs.length - ownN cs) = s.length - a ∧ (invC s a i cs).length = s.length - a
  | [], a, i, _, ha => by
    rw [invC, ownN_own, own_len]
    simp [ownN]
  | c :: cs, a, i, hu, ha => by
    unfold Up at hu
    rw [invC]
    have hle := ownN_le cs
    split at hu
    · rename_i hc
      have ih := inv_own cs a (i + 1) hu.2 ha
      have e : ownN (c :: cs) = ownN cs + 1 := by simp [ownN, hc]
      rw [if_pos hc, e, List.length_cons]
      omega
    · rename_i hc
      obtain ⟨u1, u2, u3, u4⟩ := hu
      have ih := inv_own cs (c.1.toNat + 1) (i + 1) (by rw [show ((c.1.toNat + 1 : Nat) : Int) = c.1 + 1 by omega]; exact u4) (by omega)
      have e : ownN (c :: cs) = ownN cs := by simp [ownN, hc]
      have e2 : ownN (((i : Int), 0) :: invC s (c.1.toNat + 1) (i + 1) cs) = ownN (invC s (c.1.toNat + 1) (i + 1) cs) := by
        have : ¬ ((i : Int) < 0) := by omega
        simp [ownN, this]
      have hl : ((s.drop a).take (c.1.toNat - a)).length = c.1.toNat - a := by rw [List.length_take, List.length_drop]; omega
      rw [if_neg hc, ownN_append, ownN_own, e, e2, List.length_append, own_len, hl, List.length_cons, List.length_cons]
      omega
/-- The delta back, element by element. -/
def invE (s : List UInt8) : Nat → Nat → List El → List El
  | a, _, [] => tx (s.drop a)
  | a, i, (f, t, T) :: es => if T = [] then tx ((s.drop a).take (f.toNat - a)) ++ ((i : Int), (i : Int) + (t - f), []) :: invE s t.toNat (i + (t - f).toNat) es else invE s a (i + T.length) es
theorem invC_own (s : List UInt8) : ∀ (T : List UInt8) (cs : List Ce) (a i : Nat), invC s a i (ownT T ++ cs) = invC s a (i + T.length) cs
  | [], cs, a, i => rfl
  | b :: T, cs, a, i => by
    show invC s a i ((-1, b) :: (ownT T ++ cs)) = _
    rw [invC, if_pos (by simp only; omega), invC_own s T cs a (i + 1)]
    congr 1
    simp; omega
theorem invC_rng (s : List UInt8) : ∀ (n : Nat) (f t : Nat) (cs : List Ce) (i : Nat), t - f = n → f ≤ t → invC s f i (rng f t ++ cs) = rng i (i + ((t : Int) - f)) ++ invC s t (i + (t - f)) cs
  | 0, f, t, cs, i, hn, h => by
    have : f = t := by omega
    subst this
    rw [rng_none (Int.le_refl _), rng_none (by omega)]
    simp
  | n + 1, f, t, cs, i, hn, h => by
    rw [rng_cons (by omega : (f : Int) < t)]
    show invC s f i (((f : Int), 0) :: (rng ((f : Int) + 1) t ++ cs)) = _
    rw [invC, if_neg (by simp only; omega)]
    have ih := invC_rng s n (f + 1) t cs (i + 1) (by omega) (by omega)
    rw [show (((f + 1 : Nat) : Int)) = (f : Int) + 1 by omega] at ih
    have e1 : ((f : Int), (0 : UInt8)).1.toNat = f := by simp
    rw [e1, Nat.sub_self, List.take_zero, ih, rng_cons (show (i : Int) < (i : Int) + ((t : Int) - f) by omega)]
    show (ownT [] ++ ((i : Int), (0 : UInt8)) :: _) = _
    rw [show (((i + 1 : Nat) : Int)) = (i : Int) + 1 by omega, show (i : Int) + 1 + ((t : Int) - ((f : Int) + 1)) = (i : Int) + ((t : Int) - f) by omega, show i + 1 + (t - (f + 1)) = i + (t - f) by omega]
    rfl
theorem cel_invE {s : List UInt8} {base : Int} : ∀ (es : List El) (last : Int) (k i : Nat), 0 ≤ last → Nm base last k es → cel (invE s last.toNat i es) = invC s last.toNat i (cel es)
  | [], last, k, i, _, _ => by rw [invE, cel_tx]; rfl
  | (f, t, T) :: es, last, k, i, h0, h => by
    rw [cel_cons, show ce1 (f, t, T) = ownT T ++ rng f t from rfl]
    by_cases hT : T = []
    · subst hT
      rw [Nm, if_pos rfl] at h
      obtain ⟨h1, h2, h3, h4, h5⟩ := h
      obtain ⟨fN, rfl⟩ : ∃ n : Nat, f = (n : Int) := ⟨f.toNat, by omega⟩
      obtain ⟨tN, rfl⟩ : ∃ n : Nat, t = (n : Int) := ⟨t.toNat, by omega⟩
      have ih := cel_invE (s := s) es (tN : Int) 2 (i + ((tN : Int) - fN).toNat) (by omega) h5
      rw [invE, if_pos rfl, cel_append, cel_cons, cel_tx, ih]
      have e2 : invC s last.toNat i ((ownT [] ++ rng fN tN) ++ cel es) = ownT ((s.drop last.toNat).take (fN - last.toNat)) ++ invC s fN i (rng fN tN ++ cel es) := by
        show invC s last.toNat i (rng fN tN ++ cel es) = _
        rw [rng_cons (by omega : (fN : Int) < tN)]
        show invC s last.toNat i (((fN : Int), 0) :: (rng ((fN : Int) + 1) tN ++ cel es)) = _ ++ invC s fN i (((fN : Int), 0) :: (rng ((fN : Int) + 1) tN ++ cel es))
        rw [invC, invC, if_neg (by simp only; omega), if_neg (by simp only; omega)]
        have e1 : ((fN : Int), (0 : UInt8)).1.toNat = fN := by simp
        rw [e1, Nat.sub_self, List.take_zero]
        rfl
      rw [e2, invC_rng s _ fN tN (cel es) i rfl (by omega), Int.toNat_natCast, Int.toNat_natCast, show ((tN : Int) - fN).toNat = tN - fN by omega]
      show _ ++ ((ownT [] ++ rng i (i + ((tN : Int) - fN))) ++ _) = _
      rfl
    · rw [Nm, if_neg hT] at h
      obtain ⟨rfl, rfl, h3, h4⟩ := h
      rw [invE, if_neg hT, rng_none (Int.le_refl _), List.append_nil, invC_own, cel_invE es last 1 _ h0 h4]
/-- As elements the delta back stands as it may. -/
theorem inv_tld {s : List UInt8} {es : List El} (h : Nm s.length 0 0 es) : Nm (cel es).length 0 0 (tld (invC s 0 0 (cel es))) := by
  have := inv_up (s := s) (cel es) 0 0 0 (up_cel es 0 0 (Int.le_refl _) h) (Int.le_refl _)
  rw [show ((0 : Nat) : Int) + ((cel es).length : Nat) = ((cel es).length : Nat) by omega] at this
  exact up_nm _ 0 (Int.le_refl _) this
end Go.Proofs.YtafhogfbjklboaaDoor
namespace Go.Proofs.YtafhogfbjklboaaDoor
set_option linter.unusedSimpArgs false
set_option linter.unusedVariables false

/-- What is ahead of a place is valid. -/
def VE (s : List UInt8) (k : Int) : Prop := vld (s.take k.toNat) = true
theorem ve_piece {s : List UInt8} {f t : Int} (h0 : 0 ≤ f) (h1 : f ≤ t) (hf : VE s f) (ht : VE s t) : vld ((s.drop f.toNat).take (t.toNat - f.toNat)) = true := by
  unfold VE at hf ht
  rw [show t.toNat = f.toNat + (t.toNat - f.toNat) by omega, List.take_add, vld_app hf] at ht
  exact ht
theorem ve_rest {s : List UInt8} {f : Int} (hf : VE s f) (hs : vld s = true) : vld (s.drop f.toNat) = true := by
  unfold VE at hf
  rw [← List.take_append_drop f.toNat s, vld_app hf] at hs
  exact hs
theorem ve_edg {s : ByteArray} {k : Nat} (h : edg s (k : Int) = true) : VE s.data.toList (k : Int) := by
  have := (edge_cut h).2.1
  unfold VE
  rw [Int.toNat_natCast]; exact this
theorem ve_zero (s : List UInt8) : VE s 0 := vld_nil
theorem ve_all {s : List UInt8} {n : Int} (hs : vld s = true) (hn : (s.length : Int) ≤ n) : VE s n := by
  unfold VE; rw [List.take_of_length_le (by omega)]; exact hs
/-- Elements whose copies begin and end at edges. -/
def EdE (s : List UInt8) (es : List El) : Prop := ∀ e ∈ es, vld e.2.2 = true ∧ (e.2.2 = [] → VE s e.1 ∧ VE s e.2.1)
theorem ede_elG {s : List UInt8} {base : Int} (hb : VE s base) : ∀ (l : List El) (txt : List UInt8) (en : Int), vld txt = true → VE s en → (∀ e ∈ l, vld e.2.2 = true ∧ VE s e.1 ∧ VE s e.2.1) → EdE s (elG base txt en l)
  | [], txt, en, ht, he, _ => by
    intro e hm
    simp only [elG] at hm
    rcases List.mem_append.1 hm with hm | hm
    · unfold tx at hm
      split at hm
      · cases hm
      · rename_i hne
        simp only [List.mem_singleton] at hm
        subst hm
        exact ⟨ht, fun e => absurd e hne⟩
    · split at hm
      · simp only [List.mem_singleton] at hm
        subst hm
        exact ⟨vld_nil, fun _ => ⟨he, hb⟩⟩
      · cases hm
  | (f, t, T) :: l, txt, en, ht, he, hl => by
    have h1 := hl (f, t, T) (by simp)
    have hl2 : ∀ e ∈ l, vld e.2.2 = true ∧ VE s e.1 ∧ VE s e.2.1 := fun e hm => hl e (by simp [hm])
    intro e hm
    simp only [elG] at hm
    split at hm
    · exact ede_elG hb l txt en ht he hl2 e hm
    · split at hm
      · rcases List.mem_append.1 hm with hm | hm
        · unfold tx at hm
          split at hm
          · cases hm
          · rename_i hne
            simp only [List.mem_singleton] at hm
            subst hm
            exact ⟨ht, fun e => absurd e hne⟩
        · rcases List.mem_cons.1 hm with rfl | hm
          · exact ⟨vld_nil, fun _ => ⟨he, h1.2.1⟩⟩
          · exact ede_elG hb l T t h1.1 h1.2.2 hl2 e hm
      · exact ede_elG hb l (txt ++ T) t (vld_two ht h1.1) h1.2.2 hl2 e hm
/-- Then all their bytes are valid pieces. -/
theorem ede_ok1 {s : List UInt8} {base : Int} (hb : base ≤ s.length) : ∀ (es : List El) (last : Int) (k : Nat), 0 ≤ last → Nm base last k es → EdE s es → ∀ e ∈ es, Ok1 s e
  | [], _, _, _, _, _, e, he => by cases he
  | (f, t, T) :: es, last, k, h0, h, hed, e, he => by
    have h1 := hed (f, t, T) (by simp)
    have hed2 : EdE s es := fun e he => hed e (by simp [he])
    by_cases hT : T = []
    · subst hT
      rw [Nm, if_pos rfl] at h
      rcases List.mem_cons.1 he with rfl | he
      · have h2 := h1.2 rfl
        refine ok1_copy (by omega) h.2.2.1 (by omega) ?_
        rw [show (t - f).toNat = t.toNat - f.toNat by omega]
        exact ve_piece (by omega) (by omega) h2.1 h2.2
      · exact ede_ok1 hb es t 2 (by omega) h.2.2.2.2 hed2 e he
    · rw [Nm, if_neg hT] at h
      rcases List.mem_cons.1 he with rfl | he
      · rw [h.1, h.2.1]; exact ok1_text hT h1.1
      · exact ede_ok1 hb es last 1 h0 h.2.2.2 hed2 e he
/-- How many are copies. -/
def cpN (es : List El) : Nat := (es.filter fun e => decide (e.2.2 = [])).length
theorem cpN_append (a b : List El) : cpN (a ++ b) = cpN a + cpN b := by simp [cpN]
theorem cpN_le (es : List El) : cpN es ≤ es.length := List.length_filter_le _ _
theorem cpN_elG {base : Int} : ∀ (l : List El) (txt : List UInt8) (en : Int), cpN (elG base txt en l) ≤ l.length + 1
  | [], txt, en => by
    have : cpN (tx txt) = 0 := by unfold tx; split <;> simp_all [cpN]
    simp only [elG, cpN_append, this]
    split <;> simp [cpN]
  | (f, t, T) :: l, txt, en => by
    have h0 : cpN (tx txt) = 0 := by unfold tx; split <;> simp_all [cpN]
    simp only [elG]
    split
    · have := cpN_elG (base := base) l txt en; simp only [List.length_cons]; omega
    · split
      · have := cpN_elG (base := base) l T t
        rw [cpN_append, h0]
        have e : cpN ((en, f, []) :: elG base T t l) = cpN (elG base T t l) + 1 := by simp [cpN]
        rw [e]; simp only [List.length_cons]; omega
      · have := cpN_elG (base := base) l (txt ++ T) t; simp only [List.length_cons]; omega
theorem padd_vt {e : El} (he : vld e.2.2 = true) : ∀ (es : List El), (∀ x ∈ es, vld x.2.2 = true) → ∀ x ∈ padd es e, vld x.2.2 = true
  | [], _, x, hx => by
    simp only [padd, List.mem_singleton] at hx
    subst hx; exact he
  | [y], h, x, hx => by
    have hy := h y (by simp)
    simp only [padd] at hx
    split at hx
    · simp only [List.mem_singleton] at hx
      subst hx; exact vld_nil
    · split at hx
      · simp only [List.mem_singleton] at hx
        subst hx; exact vld_two hy he
      · rcases List.mem_cons.1 hx with rfl | hx
        · exact hy
        · simp only [List.mem_singleton] at hx
          subst hx; exact he
  | y :: z :: r, h, x, hx => by
    simp only [padd] at hx
    rcases List.mem_cons.1 hx with rfl | hx
    · exact h x (by simp)
    · exact padd_vt he (z :: r) (fun q hq => h q (by simp at hq ⊢; exact Or.inr hq)) x hx
theorem padd_cpN (e : El) : ∀ (es : List El), cpN (padd es e) ≤ cpN es + cpN [e]
  | [] => by simp [padd, cpN]
  | [y] => by
    simp only [padd]
    split
    · rename_i hm; simp [cpN, hm.1, hm.2.1]
    · split
      · rename_i hm
        have : ¬ (y.2.2 ++ e.2.2 = []) := by simp [hm.1]
        simp [cpN, hm.1, hm.2]
      · rw [show [y, e] = [y] ++ [e] from rfl, cpN_append]; omega
  | y :: z :: r => by
    have := padd_cpN e (z :: r)
    simp only [padd]
    rw [show y :: padd (z :: r) e = [y] ++ padd (z :: r) e from rfl, show y :: z :: r = [y] ++ (z :: r) from rfl, cpN_append, cpN_append]
    omega
theorem foldl_vt : ∀ (es acc : List El), (∀ x ∈ es, vld x.2.2 = true) → (∀ x ∈ acc, vld x.2.2 = true) → (∀ x ∈ es.foldl padd acc, vld x.2.2 = true) ∧ cpN (es.foldl padd acc) ≤ cpN acc + cpN es ∧ (es.foldl padd acc).length ≤ acc.length + es.length
  | [], acc, _, h => ⟨h, by simp [cpN], by simp⟩
  | e :: es, acc, h1, h2 => by
    have h3 := foldl_vt es (padd acc e) (fun x hx => h1 x (by simp [hx])) (padd_vt (h1 e (by simp)) acc h2)
    have h4 := padd_cpN e acc
    have h5 := padd_len acc e
    refine ⟨h3.1, ?_, ?_⟩
    · rw [show e :: es = [e] ++ es from rfl, cpN_append]
      have := h3.2.1
      simp only [List.singleton_append, List.foldl_cons]
      omega
    · have := h3.2.2
      simp only [List.foldl_cons, List.length_cons]
      omega
/-- The elements of the delta back. -/
theorem invE_ok {s : List UInt8} {base : Int} (hs : vld s = true) (hb : base ≤ s.length) : ∀ (es : List El) (last : Int) (k i : Nat), 0 ≤ last → VE s last → Nm base last k es → EdE s es →
    (∀ e ∈ invE s last.toNat i es, vld e.2.2 = true ∧ Gd1 e) ∧ cpN (invE s last.toNat i es) ≤ cpN es ∧ (invE s last.toNat i es).length ≤ 2 * cpN es + 1
  | [], last, k, i, h0, hv, _, _ => by
    have h1 := ve_rest hv hs
    refine ⟨fun e he => ?_, ?_, ?_⟩
    · simp only [invE] at he
      unfold tx at he
      split at he
      · cases he
      · rename_i hne
        simp only [List.mem_singleton] at he
        subst he
        exact ⟨h1, Or.inr ⟨hne, rfl, rfl⟩⟩
    · simp only [invE]; unfold tx; split <;> simp_all [cpN]
    · simp only [invE]; unfold tx; split <;> simp
  | (f, t, T) :: es, last, k, i, h0, hv, h, hed => by
    have h1 := hed (f, t, T) (by simp)
    have hed2 : EdE s es := fun e he => hed e (by simp [he])
    by_cases hT : T = []
    · subst hT
      rw [Nm, if_pos rfl] at h
      have h2 := h1.2 rfl
      obtain ⟨a1, a2, a3⟩ := invE_ok hs hb es t 2 (i + (t - f).toNat) (by omega) h2.2 h.2.2.2.2 hed2
      have hp := ve_piece h0 h.1 hv h2.1
      have e0 : cpN ((f, t, []) :: es) = cpN es + 1 := by simp [cpN]
      have e1 : cpN (tx ((s.drop last.toNat).take (f.toNat - last.toNat))) = 0 := by unfold tx; split <;> simp_all [cpN]
      have e2 : (tx ((s.drop last.toNat).take (f.toNat - last.toNat))).length ≤ 1 := by unfold tx; split <;> simp
      rw [invE, if_pos rfl, e0]
      refine ⟨fun e he => ?_, ?_, ?_⟩
      · rcases List.mem_append.1 he with he | he
        · unfold tx at he
          split at he
          · cases he
          · rename_i hne
            simp only [List.mem_singleton] at he
            subst he
            exact ⟨hp, Or.inr ⟨hne, rfl, rfl⟩⟩
        · rcases List.mem_cons.1 he with rfl | he
          · exact ⟨vld_nil, Or.inl ⟨rfl, by simp only; omega, by simp only; omega⟩⟩
          · exact a1 e he
      · rw [cpN_append, e1]
        have : cpN (((i : Int), (i : Int) + (t - f), []) :: invE s t.toNat (i + (t - f).toNat) es) = cpN (invE s t.toNat (i + (t - f).toNat) es) + 1 := by simp [cpN]
        omega
      · rw [List.length_append, List.length_cons]; omega
    · rw [Nm, if_neg hT] at h
      have e0 : cpN ((f, t, T) :: es) = cpN es := by simp [cpN, hT]
      rw [invE, if_neg hT, e0]
      exact invE_ok hs hb es last 1 _ h0 hv h.2.2.2 hed2
/-- THE DELTA BACK of what was cut at edges: its least elements' texts are valid, and they are few. -/
theorem inv_valid {s : List UInt8} {es : List El} (hs : vld s = true) (h : Nm s.length 0 0 es) (hed : EdE s es) :
    (∀ e ∈ tld (invC s 0 0 (cel es)), vld e.2.2 = true) ∧ cpN (tld (invC s 0 0 (cel es))) ≤ cpN es ∧ (tld (invC s 0 0 (cel es))).length ≤ 2 * cpN es + 1 := by
  obtain ⟨a1, a2, a3⟩ := invE_ok hs (Int.le_refl _) es 0 0 0 (Int.le_refl _) (ve_zero s) h hed
  have e := cel_invE (s := s) es 0 0 0 (Int.le_refl _) h
  have e2 : tld (invC s 0 0 (cel es)) = (invE s 0 0 es).foldl padd [] := by
    rw [show (0 : Int).toNat = 0 from rfl] at e
    rw [← e]
    exact tld_elems (fun x hx => (a1 x hx).2) []
  have h5 := foldl_vt (invE s 0 0 es) [] (fun x hx => (a1 x hx).1) (fun x hx => by cases hx)
  rw [e2]
  refine ⟨h5.1, ?_, ?_⟩
  · have := h5.2.1
    simp only [cpN, List.filter_nil, List.length_nil] at this
    exact Nat.le_trans (by simpa [cpN] using this) a2
  · have := h5.2.2
    simp only [List.length_nil] at this
    rw [show (0 : Int).toNat = 0 from rfl] at a3
    omega
end Go.Proofs.YtafhogfbjklboaaDoor
namespace Go.Proofs.YtafhogfbjklboaaDoor
set_option linter.unusedSimpArgs false
set_option linter.unusedVariables false

theorem apl_vld {s : List UInt8} : ∀ (es : List El), (∀ e ∈ es, Ok1 s e) → vld (apl (cel es) s) = true
  | [], _ => vld_nil
  | e :: es, h => by
    rw [cel_cons, apl_append, (ok1_ce (h e (by simp))).1, vld_app (h e (by simp)).vl]
    exact apl_vld es fun x hx => h x (by simp [hx])
theorem padd_ede {s : List UInt8} {e : El} (he : vld e.2.2 = true ∧ (e.2.2 = [] → VE s e.1 ∧ VE s e.2.1)) : ∀ (es : List El), EdE s es → EdE s (padd es e)
  | [], _, x, hx => by
    simp only [padd, List.mem_singleton] at hx
    subst hx; exact he
  | [y], h, x, hx => by
    have hy := h y (by simp)
    simp only [padd] at hx
    split at hx
    · rename_i hm
      simp only [List.mem_singleton] at hx
      subst hx
      exact ⟨vld_nil, fun _ => ⟨(hy.2 hm.1).1, (he.2 hm.2.1).2⟩⟩
    · split at hx
      · rename_i hm
        simp only [List.mem_singleton] at hx
        subst hx
        exact ⟨vld_two hy.1 he.1, fun e0 => absurd (by simpa using e0 : y.2.2 = [] ∧ e.2.2 = []).1 hm.1⟩
      · rcases List.mem_cons.1 hx with rfl | hx
        · exact hy
        · simp only [List.mem_singleton] at hx
          subst hx; exact he
  | y :: z :: r, h, x, hx => by
    simp only [padd] at hx
    rcases List.mem_cons.1 hx with rfl | hx
    · exact h x (by simp)
    · exact padd_ede he (z :: r) (fun q hq => h q (by simp at hq ⊢; exact Or.inr hq)) x hx
theorem foldl_ede {s : List UInt8} : ∀ (es acc : List El), EdE s es → EdE s acc → EdE s (es.foldl padd acc)
  | [], acc, _, h => h
  | e :: es, acc, h1, h2 => foldl_ede es (padd acc e) (fun x hx => h1 x (by simp [hx])) (padd_ede (h1 e (by simp)) acc h2)
theorem ve_add {t : List UInt8} {i : Nat} {p : List UInt8} {r : List UInt8} (h : VE t i) (hd : t.drop i = p ++ r) (hp : vld p = true) : VE t ((i + p.length : Nat) : Int) := by
  unfold VE at *
  rw [Int.toNat_natCast] at *
  rw [List.take_add, vld_app h, hd, List.take_left' rfl]
  exact hp
theorem invE_ede {s t : List UInt8} {base : Int} (hs : vld s = true) (hb : base ≤ s.length) : ∀ (es : List El) (last : Int) (k i : Nat), 0 ≤ last → VE s last → Nm base last k es → EdE s es → VE t i → t.drop i = apl (cel es) s →
    EdE t (invE s last.toNat i es)
  | [], last, k, i, h0, hv, _, _, _, _ => by
    intro e he
    simp only [invE] at he
    unfold tx at he
    split at he
    · cases he
    · rename_i hne
      simp only [List.mem_singleton] at he
      subst he
      exact ⟨ve_rest hv hs, fun e => absurd e hne⟩
  | (f, u, T) :: es, last, k, i, h0, hv, h, hed, hi, hd => by
    have h1 := hed (f, u, T) (by simp)
    have hed2 : EdE s es := fun e he => hed e (by simp [he])
    rw [cel_cons, apl_append] at hd
    by_cases hT : T = []
    · subst hT
      rw [Nm, if_pos rfl] at h
      have h2 := h1.2 rfl
      have hp := ve_piece h0 h.1 hv h2.1
      have hok : Ok1 s (f, u, []) := ok1_copy (by omega) h.2.2.1 (by have := h.2.2.2.1; omega) (by
        rw [show (u - f).toNat = u.toNat - f.toNat by omega]
        exact ve_piece (by omega) (by omega) h2.1 h2.2)
      obtain ⟨b1, b2⟩ := ok1_ce hok
      have hlen : (pb s (f, u, [])).length = (u - f).toNat := by rw [← b2]; show (ownT [] ++ rng f u).length = _; simp [ownT, rng_len]
      rw [b1] at hd
      have hi2 := ve_add hi hd hok.vl
      rw [hlen] at hi2
      have hd2 : t.drop (i + (u - f).toNat) = apl (cel es) s := by rw [← List.drop_drop, hd, List.drop_left' hlen]
      have ih := invE_ede hs hb es u 2 (i + (u - f).toNat) (by omega) h2.2 h.2.2.2.2 hed2 hi2 hd2
      rw [invE, if_pos rfl]
      intro e he
      rcases List.mem_append.1 he with he | he
      · unfold tx at he
        split at he
        · cases he
        · rename_i hne
          simp only [List.mem_singleton] at he
          subst he
          exact ⟨hp, fun e => absurd e hne⟩
      · rcases List.mem_cons.1 he with rfl | he
        · refine ⟨vld_nil, fun _ => ⟨hi, ?_⟩⟩
          rw [show ((i + (u - f).toNat : Nat) : Int) = (i : Int) + (u - f) by have := h.2.2.1; omega] at hi2
          exact hi2
        · exact ih e he
    · rw [Nm, if_neg hT] at h
      obtain ⟨rfl, rfl, h3, h4⟩ := h
      have hok : Ok1 s (0, 0, T) := ok1_text hT h1.1
      rw [(ok1_ce hok).1, show pb s (0, 0, T) = T from by simp [pb]] at hd
      have hi2 := ve_add hi hd h1.1
      have hd2 : t.drop (i + T.length) = apl (cel es) s := by rw [← List.drop_drop, hd, List.drop_left' rfl]
      rw [invE, if_neg hT]
      exact invE_ede hs hb es last 1 _ h0 hv h4 hed2 hi2 hd2
/-- The delta back is cut at edges of what was made. -/
theorem inv_ede {s : List UInt8} {es : List El} (hs : vld s = true) (h : Nm s.length 0 0 es) (hed : EdE s es) :
    EdE (apl (cel es) s) (tld (invC s 0 0 (cel es))) ∧ vld (apl (cel es) s) = true := by
  obtain ⟨a1, a2, a3⟩ := invE_ok hs (Int.le_refl _) es 0 0 0 (Int.le_refl _) (ve_zero s) h hed
  have e := cel_invE (s := s) es 0 0 0 (Int.le_refl _) h
  have e2 : tld (invC s 0 0 (cel es)) = (invE s 0 0 es).foldl padd [] := by
    rw [show (0 : Int).toNat = 0 from rfl] at e
    rw [← e]
    exact tld_elems (fun x hx => (a1 x hx).2) []
  rw [e2]
  refine ⟨foldl_ede _ [] ?_ (fun x hx => by cases hx), apl_vld es (ede_ok1 (Int.le_refl _) es 0 0 (Int.le_refl _) h hed)⟩
  exact invE_ede (t := apl (cel es) s) hs (Int.le_refl _) es 0 0 0 (Int.le_refl _) (ve_zero s) h hed (ve_zero _) rfl
end Go.Proofs.YtafhogfbjklboaaDoor
namespace Go.Proofs.YtafhogfbjklboaaDoor
set_option linter.unusedSimpArgs false
set_option linter.unusedVariables false

theorem cel_puc {c : Ce} {es : List El} (h : ∀ e ∈ es, Gd1 e) (hc : c.1 = -1 ∨ (0 ≤ c.1 ∧ c.2 = 0)) : cel (puc c es) = c :: cel es := by
  obtain ⟨p, b⟩ := c
  unfold puc
  by_cases h0 : p < 0
  · have hp : p = -1 := by rcases hc with h1 | h1 <;> simp only at h1 <;> omega
    subst hp
    simp only [show ((-1 : Int) < 0) = True from by simp, if_true]
    cases es with
    | nil => simp [cel, ce1, ownT, rng_none]
    | cons e r =>
      obtain ⟨f, t, T⟩ := e
      by_cases hT : T = []
      · simp only [if_pos hT]
        rw [cel_cons]
        simp [ce1, ownT, rng_none]
      · simp only [if_neg hT]
        rcases h (f, t, T) (by simp) with ⟨h1, _⟩ | ⟨_, h2, h3⟩
        · exact absurd h1 hT
        · simp only at h2 h3
          subst h2 h3
          rw [cel_cons, cel_cons]
          simp [ce1, ownT, rng_none]
  · have hb : b = 0 := by
      rcases hc with h1 | h1
      · simp only at h1; omega
      · exact h1.2
    subst hb
    simp only [if_neg h0]
    cases es with
    | nil =>
      rw [cel_cons]
      show (ownT [] ++ rng p (p + 1)) ++ cel [] = _
      rw [rng_cons (by omega), rng_none (Int.le_refl _)]; rfl
    | cons e r =>
      obtain ⟨f, t, T⟩ := e
      by_cases hT : T = [] ∧ f = p + 1
      · obtain ⟨h1, h2⟩ := hT
        subst h1 h2
        rcases h (p + 1, t, []) (by simp) with ⟨_, _, h3⟩ | ⟨h1, _⟩
        · simp only at h3
          simp only [true_and, if_true]
          rw [cel_cons, cel_cons]
          show (ownT [] ++ rng p t) ++ cel r = _
          rw [rng_cons (by omega)]; rfl
        · exact absurd rfl h1
      · show cel (if T = [] ∧ f = p + 1 then (p, t, []) :: r else (p, p + 1, []) :: (f, t, T) :: r) = _
        rw [if_neg hT, cel_cons]
        show (ownT [] ++ rng p (p + 1)) ++ cel ((f, t, T) :: r) = _
        rw [rng_cons (by omega), rng_none (Int.le_refl _)]; rfl
theorem up_one {base : Int} : ∀ (cs : List Ce) (a : Int), 0 ≤ a → Up base a cs → ∀ c ∈ cs, c.1 = -1 ∨ (0 ≤ c.1 ∧ c.1 < base ∧ c.2 = 0)
  | [], _, _, _, c, hc => by cases hc
  | d :: cs, a, h0, h, c, hc => by
    unfold Up at h
    split at h
    · rcases List.mem_cons.1 hc with rfl | hc
      · exact Or.inl h.1
      · exact up_one cs a h0 h.2 c hc
    · rcases List.mem_cons.1 hc with rfl | hc
      · exact Or.inr ⟨by omega, h.2.1, h.2.2.1⟩
      · exact up_one cs (d.1 + 1) (by omega) h.2.2.2 c hc
theorem cel_tld : ∀ (l : List Ce), (∀ c ∈ l, c.1 = -1 ∨ (0 ≤ c.1 ∧ c.2 = 0)) → cel (tld l) = l
  | [], _ => rfl
  | c :: l, h => by
    rw [tld_cons, cel_puc (tld_gd l) (h c (by simp)), cel_tld l fun x hx => h x (by simp [hx])]
theorem cel_tld_up {base : Int} {l : List Ce} (h : Up base 0 l) : cel (tld l) = l :=
  cel_tld l fun c hc => by
    rcases up_one l 0 (Int.le_refl _) h c hc with h1 | h1
    · exact Or.inl h1
    · exact Or.inr ⟨h1.1, h1.2.2⟩
/-- What bytes that go up make a delta. -/
theorem isB_tld {base : Int} {l : List Ce} (hb : 0 ≤ base ∧ base ≤ 20000) (h : Up base 0 l) (hl : l.length ≤ 20000) (hv : ∀ e ∈ tld l, vld e.2.2 = true) (hm : (tld l).length ≤ 60) : isB base (tld l) = true := by
  have hn := up_nm l 0 (Int.le_refl _) h
  refine isB_spec.2 ⟨⟨hb.1, hb.2, hm⟩, hn, hv, ?_⟩
  rw [← cel_size _ 0 0 hn, cel_tld_up h]
  omega
theorem up_inC {base : Int} {n : Nat} {B : List Ce} (h : Up base 0 B) (hn : base ≤ n) : InC n B := fun c hc => by
  rcases up_one B 0 (Int.le_refl _) h c hc with h1 | h1
  · exact Or.inl (by omega)
  · exact Or.inr (by omega)
/-- Two deltas at once go up. -/
theorem two_up {a b : Int} {ea eb : List El} (ha : isB a ea = true) (hb : isB b eb = true) (hl : b = ((cel ea).length : Nat)) : Up a 0 (twoC (cel ea) (cel eb)) := by
  have na := (isB_spec.1 ha).2.1
  have nb := (isB_spec.1 hb).2.1
  subst hl
  have h1 := up_cel ea 0 0 (Int.le_refl _) na
  have h2 := up_cel eb 0 0 (Int.le_refl _) nb
  exact up_two (cel eb) 0 0 (by simpa using h2) (by simpa using h1)
/-- One change of what was made. -/
theorem two_change {D : List Ce} {p q : Nat} {T : List UInt8} (hpq : p ≤ q) (hq : q ≤ D.length) : twoC D (rng 0 p ++ (ownT T ++ rng q (D.length : Nat))) = D.take p ++ (ownT T ++ D.drop q) := by
  rw [twoC_append, twoC_append, twoC_own, twoC_rng (Int.le_refl _) (by omega) (by omega), twoC_rng (by omega) (by omega) (Int.le_refl _)]
  have e1 : (List.drop (0 : Int).toNat D).take ((p : Int) - 0).toNat = D.take p := by simp
  have e2 : (D.drop ((q : Int)).toNat).take (((D.length : Nat) : Int) - (q : Int)).toNat = D.drop q := by
    rw [Int.toNat_natCast, List.take_of_length_le (by rw [List.length_drop]; omega)]
  rw [e1, e2]
theorem bce_one_change (n p q : Int) (T : List UInt8) : bce n 0 [(p, q, T)] = rng 0 p ++ (ownT T ++ rng q n) := by
  simp [bce]
/-- ONE CHANGE MORE, behind a delta of valid pieces. -/
theorem step_two {s : List UInt8} {es : List El} {p q : Nat} {T : List UInt8} (hi : isB (s.length : Nat) es = true) (ho : ∀ e ∈ es, Ok1 s e) (hpq : p ≤ q) (hq : q ≤ (cel es).length)
    (vp : vld ((apl (cel es) s).take p) = true) (vq : vld ((apl (cel es) s).take q) = true) (hT : vld T = true) (hsz : (cel es).length + T.length ≤ 20000) (hm : es.length + 2 ≤ 60) :
    ∃ E, tld (twoC (cel es) (bce (cel es).length 0 [((p : Int), (q : Int), T)])) = E ∧ isB (s.length : Nat) E = true ∧ (∀ e ∈ E, Ok1 s e) ∧ E.length ≤ es.length + 2 ∧ cel E = (cel es).take p ++ (ownT T ++ (cel es).drop q) ∧ apl (cel E) s = (apl (cel es) s).take p ++ (T ++ (apl (cel es) s).drop q) := by
  obtain ⟨h1, h2, _, _⟩ := isB_spec.1 hi
  have hb := bce_one_change ((cel es).length : Nat) (p : Int) (q : Int) T
  have htc := two_change (T := T) hpq hq
  rw [← hb] at htc
  obtain ⟨a1, a2⟩ := two_ok1 ho hpq hq vp vq hT
  have hup : Up (s.length : Nat) 0 ((cel es).take p ++ (ownT T ++ (cel es).drop q)) := by
    rw [← htc]
    have u1 := up_cel es 0 0 (Int.le_refl _) h2
    refine up_two _ 0 0 ?_ (by simpa using u1)
    rw [hb]
    have u2 : Up ((cel es).length : Nat) (q : Int) (rng q (cel es).length ++ []) := up_rng (cs := []) trivial _ q q rfl (Int.le_refl _) (by omega) (by omega) (Int.le_refl _)
    rw [List.append_nil] at u2
    have u3 := up_own (a := (p : Int)) T (up_mono _ (p : Int) (q : Int) (by omega) u2)
    have u4 := up_rng (a := 0) u3 (p - 0) 0 (by simp) (Int.le_refl _) (Int.le_refl _) (by omega) (by omega)
    simpa using u4
  have hlen : ((cel es).take p ++ (ownT T ++ (cel es).drop q)).length ≤ 20000 := by
    rw [List.length_append, List.length_append, List.length_take, List.length_drop, own_len]
    omega
  refine ⟨_, rfl, ?_, ?_, ?_, ?_, ?_⟩
  · rw [htc]
    exact isB_tld ⟨h1.1, h1.2.1⟩ hup hlen (fun e he => (a1 e he).vt) (by omega)
  · rw [htc]; exact a1
  · rw [htc]; exact a2
  · rw [htc]; exact cel_tld_up hup
  · rw [htc, cel_tld_up hup, apl_append, apl_append, apl_own]
    congr 1
    · simp [apl, List.map_take]
    · congr 1
      simp [apl, List.map_drop]
end Go.Proofs.YtafhogfbjklboaaDoor
